/- Texts. -/
import Derived.Shelf.Strings.BuilderK
import Derived.Shelf.Strings.BuilderRune
import Derived.Test.YteilldmmihiijaaGreatDoorRows
import GoSem.Claim
import Derived.Laws.Bits64b
import Derived.Laws.Bits64
import Derived.Laws.BitsAllLaws
import Derived.Lib.DecodeN
import Derived.Lib.RuneBytes
import Derived.Laws.BytesArg
import Derived.Lib.SlTrimSet
import Derived.Lib.IndexAny
import Derived.Lib.IndexBytes
import Derived.Shelf.Strings.SlTrimAscii
import Derived.Shelf.Strings.IndexAnyAll
import Derived.Shelf.Small.Strs
import Derived.WalkKit
import Derived.WalkSpells
import Derived.WalkLawsBesides
import Derived.BigCall
import Derived.BigQuiet
import Derived.Deep.QuietTactic
import Derived.Lib.Hide
import Derived.WalkSmall
import Derived.Maps.AppendAt
import Derived.Tactics
import Derived.Deep.RegionLaw
import Derived.Deep.AppendLies
import Derived.RangeFuncIn
import Derived.RangeFuncRecord
import Derived.RangeFuncLeaves
import Derived.RangeFuncSeq
import Derived.Below
import Derived.Laws.Bits128
import Derived.BigRegion
import Derived.Shelf.Spec.TrailingZeros
set_option linter.unusedSimpArgs false
set_option linter.unusedVariables false
set_option maxHeartbeats 8000000
set_option maxRecDepth 1000000
namespace Go.Proofs.YteilldmmihiijaaGreatDoor
open Go.Lib renaming hid→Ad5
open List renaming getElem_cons_zero→Ad7,length_append→Aee,mem_cons→Ael,mem_append→Aem
open Nat renaming le_refl→Aec,le_trans→Aed,lt_of_lt_of_le→Aef
open Go.RowKit.Below renaming refl→Aeh,heap_setCell→Aei
open Go.IntWalk renaming i64_in→Aej
section
open Go.RowKit Go.Shelf
def Rl:Go.Shelf.Ren:=⟨fun | 167=>87 | 240=>106 | 276=>121 | n=>n,fun | 0=>0 | 4=>4 | 5=>5 | 9=>9 | 20=>20 | 37=>165 | 70=>164 | 72=>167 | 75=>169 | 164=>213 | 80=>61 | n=>n,fun | n=>n⟩
theorem U7:Go.Proofs.Lays.n167 Tryz.prog Rl:={
 mixed:=by kernel_rfl
 f167:=Tryz.func87.trans (congrArg some (by kernel_rfl))
 f240:=Tryz.func106.trans (congrArg some (by kernel_rfl))
 f276:=Tryz.func121.trans (congrArg some (by kernel_rfl))
 t0:=Tryz.underlying0
 a0:=Tryz.isAgg0
 z0:=Tryz.sizeOf0
 v0:=Tryz.zeroValue0
 t4:=Tryz.underlying4
 a4:=Tryz.isAgg4
 z4:=Tryz.sizeOf4
 v4:=Tryz.zeroValue4
 t5:=Tryz.underlying5
 a5:=Tryz.isAgg5
 z5:=Tryz.sizeOf5
 v5:=Tryz.zeroValue5
 t9:=Tryz.underlying9
 a9:=Tryz.isAgg9
 z9:=Tryz.sizeOf9
 v9:=Tryz.zeroValue9
 t20:=Tryz.underlying20
 a20:=Tryz.isAgg20
 z20:=Tryz.sizeOf20
 v20:=Tryz.zeroValue20
 t37:=Tryz.underlying165
 a37:=Tryz.isAgg165
 z37:=Tryz.sizeOf165
 v37:=Tryz.zeroValue165
 t70:=Tryz.underlying164
 a70:=Tryz.isAgg164
 z70:=Tryz.sizeOf164
 v70:=Tryz.zeroValue164
 t72:=Tryz.underlying167
 a72:=Tryz.isAgg167
 z72:=Tryz.sizeOf167
 v72:=Tryz.zeroValue167
 t75:=Tryz.underlying169
 a75:=Tryz.isAgg169
 z75:=Tryz.sizeOf169
 v75:=Tryz.zeroValue169
 t164:=Tryz.underlying213
 a164:=Tryz.isAgg213
 z164:=Tryz.sizeOf213
 v164:=Tryz.zeroValue213 }
theorem Sv:Builder.Extra Tryz.prog Rl:={
 sizeBuilder:=by kernel_rfl
 liesBuilder:=by kernel_rfl
 t5:=Tryz.underlying5
 a5:=Tryz.isAgg5
 z5:=Tryz.sizeOf5
 v5:=Tryz.zeroValue5
 infoByte:=by kernel_rfl
 cellsByte:=by kernel_rfl
 sizeByte:=by kernel_rfl
 neB5:=by decide }
theorem Ew (B b:Nat) (bs:List Value) (c:Int) (w:World) (h:Lib.IsBuilderF 167 5 B b bs w) (hlen:bs.length+1≤140737488355328) (hBw:B≤w.heap.size) :
  Calls Tryz.prog 87 #[.pointer (some ⟨b,0,none⟩),.int .u8 c] w fun e w'=>e=.returned .nilIface∧(Lib.BuilderAtF 167 5 B b (.pointer (some ⟨b,0,none⟩)) (bs++[.int .u8 c]) w'∧Below B w w'∧Lib.OthersKept 5 (some b) w w'):=Any.Builder_WriteByte_k U7 Sv B b bs c w h hlen hBw
def Rm:Go.Shelf.Ren:=⟨fun | 168=>144 | 240=>106 | 242=>156 | 276=>121 | 278=>164 | n=>n,fun | 0=>0 | 3=>3 | 4=>4 | 5=>5 | 9=>9 | 20=>20 | 21=>21 | 37=>165 | 46=>125 | 51=>150 | 70=>164 | 72=>167 | 75=>169 | 164=>213 | 80=>61 | n=>n,fun | n=>n⟩
theorem U8:Go.Proofs.Lays.n168 Tryz.prog Rm:={
 mixed:=by kernel_rfl
 f168:=Tryz.func144.trans (congrArg some (by kernel_rfl))
 f240:=Tryz.func106.trans (congrArg some (by kernel_rfl))
 f242:=Tryz.func156.trans (congrArg some (by kernel_rfl))
 f276:=Tryz.func121.trans (congrArg some (by kernel_rfl))
 f278:=Tryz.func164.trans (congrArg some (by kernel_rfl))
 t0:=Tryz.underlying0
 a0:=Tryz.isAgg0
 z0:=Tryz.sizeOf0
 v0:=Tryz.zeroValue0
 t3:=Tryz.underlying3
 a3:=Tryz.isAgg3
 z3:=Tryz.sizeOf3
 v3:=Tryz.zeroValue3
 t4:=Tryz.underlying4
 a4:=Tryz.isAgg4
 z4:=Tryz.sizeOf4
 v4:=Tryz.zeroValue4
 t5:=Tryz.underlying5
 a5:=Tryz.isAgg5
 z5:=Tryz.sizeOf5
 v5:=Tryz.zeroValue5
 t9:=Tryz.underlying9
 a9:=Tryz.isAgg9
 z9:=Tryz.sizeOf9
 v9:=Tryz.zeroValue9
 t20:=Tryz.underlying20
 a20:=Tryz.isAgg20
 z20:=Tryz.sizeOf20
 v20:=Tryz.zeroValue20
 t21:=Tryz.underlying21
 a21:=Tryz.isAgg21
 z21:=Tryz.sizeOf21
 v21:=Tryz.zeroValue21
 t37:=Tryz.underlying165
 a37:=Tryz.isAgg165
 z37:=Tryz.sizeOf165
 v37:=Tryz.zeroValue165
 t46:=Tryz.underlying125
 a46:=Tryz.isAgg125
 z46:=Tryz.sizeOf125
 v46:=Tryz.zeroValue125
 t51:=Tryz.underlying150
 a51:=Tryz.isAgg150
 z51:=Tryz.sizeOf150
 v51:=Tryz.zeroValue150
 t70:=Tryz.underlying164
 a70:=Tryz.isAgg164
 z70:=Tryz.sizeOf164
 v70:=Tryz.zeroValue164
 t72:=Tryz.underlying167
 a72:=Tryz.isAgg167
 z72:=Tryz.sizeOf167
 v72:=Tryz.zeroValue167
 t75:=Tryz.underlying169
 a75:=Tryz.isAgg169
 z75:=Tryz.sizeOf169
 v75:=Tryz.zeroValue169
 t164:=Tryz.underlying213
 a164:=Tryz.isAgg213
 z164:=Tryz.sizeOf213
 v164:=Tryz.zeroValue213 }
theorem Sw:Builder.Extra Tryz.prog Rm:={
 sizeBuilder:=by kernel_rfl
 liesBuilder:=by kernel_rfl
 t5:=Tryz.underlying5
 a5:=Tryz.isAgg5
 z5:=Tryz.sizeOf5
 v5:=Tryz.zeroValue5
 infoByte:=by kernel_rfl
 cellsByte:=by kernel_rfl
 sizeByte:=by kernel_rfl
 neB5:=by decide }
theorem Np (B b:Nat) (bs:List Value) (r:Int) (hr0:-2147483648≤r) (hr1:r≤2147483647) (w:World) (h:Lib.IsBuilderF 167 5 B b bs w) (hlen:bs.length+4≤140737488355328) (hBw:B≤w.heap.size) :
  Calls Tryz.prog 144 #[.pointer (some ⟨b,0,none⟩),.int .i32 r] w fun e w'=>e=.returned (.tuple #[.int .i64 (Lib.runeCells r).length,.nilIface])∧(Lib.BuilderAtF 167 5 B b (.pointer (some ⟨b,0,none⟩)) (bs++Lib.runeCells r) w'∧Below B w w'∧Lib.OthersKept 5 (some b) w w'):=Any.Builder_WriteRune_k U8 Sw B b bs r hr0 hr1 w h hlen hBw
def Rn:Go.Shelf.Ren:=⟨fun | 169=>88 | n=>n,fun | 0=>0 | 3=>3 | 9=>9 | 37=>165 | 70=>164 | 72=>167 | 127=>186 | 5=>5 | n=>n,fun | n=>n⟩
theorem U9:Go.Proofs.Lays.n169 Tryz.prog Rn:={
 mixed:=by kernel_rfl
 f169:=Tryz.func88.trans (congrArg some (by kernel_rfl))
 t0:=Tryz.underlying0
 a0:=Tryz.isAgg0
 z0:=Tryz.sizeOf0
 v0:=Tryz.zeroValue0
 t3:=Tryz.underlying3
 a3:=Tryz.isAgg3
 z3:=Tryz.sizeOf3
 v3:=Tryz.zeroValue3
 t9:=Tryz.underlying9
 a9:=Tryz.isAgg9
 z9:=Tryz.sizeOf9
 v9:=Tryz.zeroValue9
 t37:=Tryz.underlying165
 a37:=Tryz.isAgg165
 z37:=Tryz.sizeOf165
 v37:=Tryz.zeroValue165
 t70:=Tryz.underlying164
 a70:=Tryz.isAgg164
 z70:=Tryz.sizeOf164
 v70:=Tryz.zeroValue164
 t72:=Tryz.underlying167
 a72:=Tryz.isAgg167
 z72:=Tryz.sizeOf167
 v72:=Tryz.zeroValue167
 t127:=Tryz.underlying186
 a127:=Tryz.isAgg186
 z127:=Tryz.sizeOf186
 v127:=Tryz.zeroValue186 }
theorem Sx:Builder.Extra Tryz.prog Rn:={
 sizeBuilder:=by kernel_rfl
 liesBuilder:=by kernel_rfl
 t5:=Tryz.underlying5
 a5:=Tryz.isAgg5
 z5:=Tryz.sizeOf5
 v5:=Tryz.zeroValue5
 infoByte:=by kernel_rfl
 cellsByte:=by kernel_rfl
 sizeByte:=by kernel_rfl
 neB5:=by decide }
theorem CA (B b:Nat) (l:List UInt8) (w:World) (h:Lib.IsBuilderF 167 5 B b (Lib.byteCells l) w) (hBw:B≤w.heap.size) :
  Calls Tryz.prog 88 #[.pointer (some ⟨b,0,none⟩)] w fun e w'=>e=.returned (.string ⟨l.toArray⟩)∧(Lib.IsBuilderF 167 5 B b (Lib.byteCells l) w'∧Below B w w'∧Lib.OthersKept 5 (some b) w w'):=Any.Builder_String_any_k U9 Sx B b l w h hBw
end
section
abbrev OSet:=BitVec 256
def F0 (s:OSet) (i:Nat):Nat:=s.toNat / 2 ^ (64 * i) % 18446744073709551616
def ow (s:OSet) (i:Nat):Int:=(F0 s i:Int)
theorem Co (s:OSet) (i:Nat):F0 s i < 18446744073709551616:=Nat.mod_lt _ (by decide)
theorem KY (s:OSet) (i:Nat):0≤ow s i:=Int.natCast_nonneg _
theorem Ac1 (s:OSet) (i:Nat):ow s i < 18446744073709551616:=by have:=Co s i;unfold ow;omega
theorem Bf (s:OSet) (i j:Nat):(F0 s i).testBit j=(decide (j < 64) && s.getLsbD (64 * i+j)):=by
 unfold F0;rw [show (18446744073709551616:Nat)=2 ^ 64 from rfl,Nat.testBit_mod_two_pow,Nat.testBit_div_two_pow];rw [BitVec.getLsbD]
 congr 2
 omega
theorem Il (s:OSet) (i n:Nat) (hn:n < 18446744073709551616) (h:∀ j,j < 64→n.testBit j=s.getLsbD (64 * i+j)):n=F0 s i:=by
 refine Nat.eq_of_testBit_eq fun j=>?_
 rw [Bf];by_cases hj:j < 64
 ·rw [h j hj];simp [hj]
 ·rw [Nat.testBit_lt_two_pow (Aef hn (by rw [show (18446744073709551616:Nat)=2 ^ 64 from rfl];exact Nat.pow_le_pow_right (by decide) (by omega)))];simp [hj]
theorem UA {s t:OSet} (h:∀ i,i < 4→ow s i=ow t i):s=t:=by
 refine BitVec.eq_of_getLsbD_eq fun k hk=>?_
 have h1:F0 s (k / 64)=F0 t (k / 64):=by
  have:=h (k / 64) (by omega);unfold ow at this;omega
 have h2:=Bf s (k / 64) (k % 64);have h3:=Bf t (k / 64) (k % 64);rw [h1,h3] at h2;have h4:64 * (k / 64)+k % 64=k:=by omega
 have h5:k % 64 < 64:=by omega
 rw [h4] at h2;simpa [h5] using h2.symm
theorem Ro {s t:OSet} (h:s≠t):¬ (ow s 0=ow t 0∧ow s 1=ow t 1∧ow s 2=ow t 2∧ow s 3=ow t 3):=by
 intro ⟨h0,h1,h2,h3⟩;refine h (UA fun i hi=>?_)
 match i,hi with
 | 0,_=>exact h0
 | 1,_=>exact h1
 | 2,_=>exact h2
 | 3,_=>exact h3
theorem XZ (s t:OSet) (i:Nat):F0 s i &&& F0 t i=F0 (s &&& t) i:=by
 refine Il _ _ _ (Nat.lt_of_le_of_lt Nat.and_le_left (Co s i)) fun j hj=>?_
 simp [Nat.testBit_and,Bf,hj]
theorem Aam (s t:OSet) (i:Nat):F0 s i ||| F0 t i=F0 (s ||| t) i:=by
 refine Il _ _ _ ?_ fun j hj=>?_
 ·rw [show (18446744073709551616:Nat)=2 ^ 64 from rfl];exact Nat.or_lt_two_pow (Co s i) (Co t i)
 ·simp [Nat.testBit_or,Bf,hj]
theorem Ya (s:OSet) (i:Nat) (hi:i < 4):18446744073709551615 - F0 s i=F0 (~~~s) i:=by
 refine Il _ _ _ (by omega) fun j hj=>?_
 have h:=Nat.testBit_two_pow_sub_succ (n:=64) (Co s i) j;rw [show (2:Nat) ^ 64 - (F0 s i+1)=18446744073709551615 - F0 s i by have:=Co s i;omega] at h;rw [h,Bf];have h256:64 * i+j < 256:=by omega
 simp [hj,h256]
theorem Ey (s t:OSet) (i:Nat):bits .and .u64 (ow s i) (ow t i)=ow (s &&& t) i:=by
 unfold ow;rw [bits_and_u64_nat _ _ (Co s i) (Co t i),XZ]
theorem EZ (s t:OSet) (i:Nat):bits .or .u64 (ow s i) (ow t i)=ow (s ||| t) i:=by
 unfold ow;rw [bits_or_u64_nat _ _ (Co s i) (Co t i),Aam]
theorem Yb (n:Nat) (h:n < 18446744073709551616):18446744073709551615 ^^^ n=18446744073709551615 - n:=by
 refine Nat.eq_of_testBit_eq fun j=>?_
 have h2:=Nat.testBit_two_pow_sub_succ (n:=64) h j;rw [show (2:Nat) ^ 64 - (n+1)=18446744073709551615 - n by omega] at h2;rw [h2,Nat.testBit_xor,show (18446744073709551615:Nat)=2 ^ 64 - 1 from rfl,Nat.testBit_two_pow_sub_one];by_cases hj:j < 64
 ·simp [hj]
 ·rw [Nat.testBit_lt_two_pow (Aef h (by rw [show (18446744073709551616:Nat)=2 ^ 64 from rfl];exact Nat.pow_le_pow_right (by decide) (by omega)))];simp [hj]
theorem Ez (s:OSet) (i:Nat) (hi:i < 4):bits .xor .u64 18446744073709551615 (ow s i)=ow (~~~s) i:=by
 unfold ow;have h:=bits_xor_u64_nat 18446744073709551615 (F0 s i) (by decide) (Co s i);rw [Yb _ (Co s i),Ya s i hi] at h;exact h
def ohas (s:OSet) (x:Nat):Bool:=s.getLsbD x
def Gz (x:Nat):OSet:=BitVec.ofNat 256 (2 ^ x)
theorem Jt (x y:Nat) (hx:x < 256):(Gz x).getLsbD y=decide (x=y):=by
 unfold Gz;rw [BitVec.getLsbD_ofNat,Nat.testBit_two_pow];by_cases h:x=y
 ·subst h;simp [hx]
 ·simp [h]
theorem Aan (s:OSet) (i j:Nat) (hj:j < 64):F0 s i / 2 ^ j % 2=(s.getLsbD (64 * i+j)).toNat:=by
 have h:=Bf s i j;rw [Nat.testBit_eq_decide_div_mod_eq] at h;simp only [hj,decide_true,Bool.true_and] at h;have h2:F0 s i / 2 ^ j % 2=0∨F0 s i / 2 ^ j % 2=1:=by omega
 rcases h2 with h2 | h2
 ·rw [h2] at h;rw [h2,←h];simp
 ·rw [h2] at h;rw [h2,←h];simp
theorem UB (s:OSet) (i:Nat) (x:Int) (h0:0≤x) (h1:x≤255) (hi:x / 64=i):(ow s i / 2 ^ (x % 64).toNat) % 2=if ohas s x.toNat then 1 else 0:=by
 obtain ⟨n,rfl⟩:=Int.eq_ofNat_of_zero_le h0;have e1:((n:Int) % 64).toNat=n % 64:=by omega
 have e2:64 * i+n % 64=n:=by omega
 have h:=Aan s i (n % 64) (by omega);rw [e2] at h;rw [e1,Int.toNat_natCast];unfold ow ohas;have e3:((F0 s i:Int) / 2 ^ (n % 64) % 2)=((F0 s i / 2 ^ (n % 64) % 2:Nat):Int):=by simp
 rw [e3,h];cases s.getLsbD n <;> simp
theorem Ju (s:OSet) (i k:Nat):0≤ow s i / 2 ^ k:=Int.ediv_nonneg (KY s i) (by exact_mod_cast Nat.zero_le _)
theorem OZ (s:OSet) (i k:Nat):ow s i / 2 ^ k < 18446744073709551616:=by
 refine Int.lt_of_le_of_lt ?_ (Ac1 s i);exact Int.ediv_le_self _ (KY s i)
theorem Yc (s:OSet) (i:Nat) (x:Int) (h0:0≤x) (h1:x≤255) (hi:x / 64=i):(bits .and .u64 (ow s i / 2 ^ (x % 64).toNat) 1 == 1)=ohas s x.toNat:=by
 have h2:=Ju s i (x % 64).toNat
 have h3:=OZ s i (x % 64).toNat
 have h:=bits_and_u64_nat (ow s i / 2 ^ (x % 64).toNat).toNat 1 (by omega) (by omega);rw [Nat.and_one_is_mod,Int.toNat_of_nonneg h2] at h;have h4:=UB s i x h0 h1 hi;have h5:(((ow s i / 2 ^ (x % 64).toNat).toNat % 2:Nat):Int)=(ow s i / 2 ^ (x % 64).toNat) % 2:=by omega
 rw [show ((1:Nat):Int)=1 from rfl] at h;rw [h,h5,h4];cases ohas s x.toNat <;> rfl
theorem Yd (s:OSet) (i x:Nat) (hx:x < 256) (hi:x / 64=i):F0 s i ||| 2 ^ (x % 64)=F0 (s ||| Gz x) i:=by
 have hp:2 ^ (x % 64) < 2 ^ 64:=Nat.pow_lt_pow_right (by decide) (by omega);refine Il _ _ _ ?_ fun j hj=>?_
 ·rw [show (18446744073709551616:Nat)=2 ^ 64 from rfl];exact Nat.or_lt_two_pow (Co s i) hp
 ·rw [Nat.testBit_or,Bf,BitVec.getLsbD_or,Jt _ _ hx,Nat.testBit_two_pow];simp only [hj,decide_true,Bool.true_and]
  congr 1
  exact decide_eq_decide.2 (by omega)
theorem KG (s:OSet) (i x:Nat) (hx:x < 256) (hi:x / 64≠i):F0 s i=F0 (s ||| Gz x) i:=by
 refine Il _ _ _ (Co s i) fun j hj=>?_
 rw [Bf,BitVec.getLsbD_or,Jt _ _ hx];have:x≠64 * i+j:=by omega
 simp [hj,this]
theorem Nq (s:OSet) (i:Nat) (x:Int) (h0:0≤x) (h1:x≤255) (hi:x / 64=i):bits .or .u64 (ow s i) (2 ^ (x % 64).toNat)=ow (s ||| Gz x.toNat) i:=by
 obtain ⟨n,rfl⟩:=Int.eq_ofNat_of_zero_le h0;have e1:((n:Int) % 64).toNat=n % 64:=by omega
 have hp:2 ^ (n % 64) < 2 ^ 64:=Nat.pow_lt_pow_right (by decide) (by omega);have h:=bits_or_u64_nat (F0 s i) (2 ^ (n % 64)) (Co s i) hp;rw [Yd s i n (by omega) (by omega)] at h;rw [e1,Int.toNat_natCast];unfold ow;rw [←h];simp
theorem GM (s:OSet) (i:Nat) (x:Int) (h0:0≤x) (h1:x≤255) (hi:x / 64≠i):ow (s ||| Gz x.toNat) i=ow s i:=by
 unfold ow;rw [←KG s i x.toNat (by omega) (by omega)]
def oz:OSet:=0
theorem Al (i:Nat):ow oz i=0:=by simp [oz,ow,F0]
def D2 (zs:List Int):OSet:=zs.foldl (fun s x=>s ||| Gz x.toNat) oz
def CP (lo:Nat):Nat→OSet
 | 0=>oz
 | n+1=>CP lo n ||| Gz (lo+n)
def Ab (lo hi:Int):OSet:=CP lo.toNat (hi - lo+1).toNat
theorem Ye:D2 []=oz:=rfl
theorem UC (zs:List Int) (k:Nat) (h:k < zs.length):D2 (zs.take (k+1))=D2 (zs.take k) ||| Gz (zs.getD k 0).toNat:=by
 unfold D2;rw [List.take_succ_eq_append_getElem h,List.foldl_append];simp [List.getD,List.getElem?_eq_getElem h]
end
section
def prv (s:OSet) (k:Nat):Bool:=decide (0 < k) && ohas s (k - 1)
def Rp:List (Nat × Nat)→Nat→List (Nat × Nat)
 | [],_=>[]
 | [p],k=>[(p.1,k)]
 | p :: q :: l,k=>p :: Rp (q :: l) k
def Im (s:OSet):Nat→List (Nat × Nat)
 | 0=>[]
 | k+1=>if ohas s k then (if prv s k then Rp (Im s k) k else Im s k++[(k,k)]) else Im s k
theorem Jv (p:Nat × Nat) (k:Nat):∀ l:List (Nat × Nat),Rp (l++[p]) k=l++[(p.1,k)]
 | []=>rfl
 | [a]=>rfl
 | a :: b :: l=>by
  have h:=Jv p k (b :: l);simp only [List.cons_append] at h ⊢;rw [Rp,h]
theorem Nr (s:OSet) (k:Nat):prv s (k+1)=ohas s k:=by simp [prv]
structure SpOk (s:OSet) (k:Nat) (l:List (Nat × Nat)):Prop where
 le:∀ p∈l,p.1≤p.2∧p.2 < k
 apart:∀ i,∀ h:i+1 < l.length,(l[i]'(by omega)).2+1 < (l[i+1]'h).1
 mem:∀ b,b < k→(ohas s b=true ↔ ∃ p∈l,p.1≤b∧b≤p.2)
 last:prv s k=true→∃ a p,l=a++[p]∧p.2+1=k
 gap:prv s k=false→∀ p∈l,p.2+1 < k∨k=0
theorem Aao (s:OSet):∀ k,SpOk s k (Im s k)
 | 0=>⟨by simp [Im],by simp [Im],by simp,by simp [prv],by simp [Im]⟩
 | k+1=>by
  have ih:=Aao s k;unfold Im;by_cases hk:ohas s k=true
  ·rw [if_pos hk];have hp1:prv s (k+1)=true:=by rw [Nr,hk]
   by_cases hp:prv s k=true
   ·rw [if_pos hp];obtain ⟨a,p,hl,hpk⟩:=ih.last hp;rw [hl,Jv];rw [hl] at ih;refine ⟨?_,?_,?_,fun _=>⟨a,_,rfl,rfl⟩,fun h=>by rw [hp1] at h;cases h⟩
    ·intro q hq;rcases Aem.1 hq with hq | hq
     ·have:=ih.le q (List.mem_append_left _ hq);omega
     ·simp only [List.mem_singleton] at hq;have:=ih.le p (by simp);subst hq;simp only;omega
    ·intro i h;have h1:=ih.apart i (by simpa using h);simp only [Aee,List.length_cons,List.length_nil] at h;by_cases hi:i+1 < a.length
     ·rw [List.getElem_append_left (by omega),List.getElem_append_left hi] at h1 ⊢;exact h1
     ·have e:i+1=a.length:=by omega
      rw [List.getElem_append_left (by omega),List.getElem_append_right (by omega)] at h1 ⊢;simp only [e,Nat.sub_self,Ad7] at h1 ⊢;exact h1
    ·intro b hb;by_cases hbk:b < k
     ·rw [ih.mem b hbk];constructor
      ·rintro ⟨q,hq,h1,h2⟩;rcases Aem.1 hq with hq | hq
       ·exact ⟨q,List.mem_append_left _ hq,h1,h2⟩
       ·simp only [List.mem_singleton] at hq;subst hq;exact ⟨(q.1,k),by simp,h1,by simp only;omega⟩
      ·rintro ⟨q,hq,h1,h2⟩;rcases Aem.1 hq with hq | hq
       ·exact ⟨q,List.mem_append_left _ hq,h1,h2⟩
       ·simp only [List.mem_singleton] at hq;subst hq;simp only at h1 h2;exact ⟨p,by simp,h1,by omega⟩
     ·have e:b=k:=by omega
      subst e;refine ⟨fun _=>⟨(p.1,b),by simp,?_,by simp⟩,fun _=>hk⟩;have:=ih.le p (by simp);simp only;omega
   ·have hp':prv s k=false:=by simpa using hp
    rw [if_neg hp];refine ⟨?_,?_,?_,fun _=>⟨_,_,rfl,rfl⟩,fun h=>by rw [hp1] at h;cases h⟩
    ·intro q hq;rcases Aem.1 hq with hq | hq
     ·have:=ih.le q hq;omega
     ·simp only [List.mem_singleton] at hq;subst hq;simp
    ·intro i h;simp only [Aee,List.length_cons,List.length_nil] at h;by_cases hi:i+1 < (Im s k).length
     ·rw [List.getElem_append_left (by omega),List.getElem_append_left hi];exact ih.apart i hi
     ·have e:i+1=(Im s k).length:=by omega
      rw [List.getElem_append_left (by omega),List.getElem_append_right (by omega)];simp only [e,Nat.sub_self,Ad7];have hm:=List.getElem_mem (l:=Im s k) (n:=i) (by omega);rcases ih.gap hp' _ hm with h1 | h1
      ·exact h1
      ·have:=ih.le _ hm;omega
    ·intro b hb;by_cases hbk:b < k
     ·rw [ih.mem b hbk];constructor
      ·rintro ⟨q,hq,h1,h2⟩;exact ⟨q,List.mem_append_left _ hq,h1,h2⟩
      ·rintro ⟨q,hq,h1,h2⟩;rcases Aem.1 hq with hq | hq
       ·exact ⟨q,hq,h1,h2⟩
       ·simp only [List.mem_singleton] at hq;subst hq;simp only at h1 h2;omega
     ·have e:b=k:=by omega
      subst e;exact ⟨fun _=>⟨(b,b),by simp,by simp,by simp⟩,fun _=>hk⟩
  ·have hk':ohas s k=false:=by simpa using hk
   rw [if_neg hk];have hp1:prv s (k+1)=false:=by rw [Nr,hk']
   refine ⟨?_,ih.apart,?_,fun h=>(by rw [hp1] at h;cases h),?_⟩
   ·intro q hq;have:=ih.le q hq;omega
   ·intro b hb;by_cases hbk:b < k
    ·exact ih.mem b hbk
    ·have e:b=k:=by omega
     subst e;rw [hk'];refine ⟨fun h=>(by cases h),?_⟩;rintro ⟨q,hq,h1,h2⟩;have:=ih.le q hq;omega
   ·intro _ q hq;have:=ih.le q hq;omega
def ZX (s:OSet):List (Nat × Nat):=Im s 256
theorem FY (lo:Nat) (k:Nat):∀ n,lo+n≤256→(CP lo n).getLsbD k=(decide (lo≤k) && decide (k < lo+n))
 | 0,_=>by
  simp only [CP,oz];by_cases h:lo≤k
  ·simp [h]
  ·simp [h]
 | n+1,hn=>by
  rw [CP,BitVec.getLsbD_or,FY lo k n (by omega),Jt _ _ (by omega)];by_cases h:lo≤k <;> by_cases h2:k < lo+n <;> by_cases h3:lo+n=k <;> simp [h,h2,h3] <;> omega
def unn (l:List (Nat × Nat)):OSet:=l.foldl (fun s p=>s ||| Ab p.1 p.2) oz
theorem Ns (k:Nat):∀ (l:List (Nat × Nat)) (s:OSet),(∀ p∈l,p.1≤p.2∧p.2 < 256)→
  ((l.foldl (fun s p=>s ||| Ab p.1 p.2) s).getLsbD k=true ↔ s.getLsbD k=true∨∃ p∈l,p.1≤k∧k≤p.2)
 | [],s,_=>by simp
 | p :: l,s,h=>by
  have hp:=h p (by simp);rw [List.foldl_cons,Ns k l _ (fun q hq=>h q (by simp [hq])),BitVec.getLsbD_or];unfold Ab;rw [Int.toNat_natCast,show ((p.2:Int) - (p.1:Int)+1).toNat=p.2+1 - p.1 by omega,FY _ _ _ (by omega)];simp only [Bool.or_eq_true,Bool.and_eq_true,decide_eq_true_eq,Ael];constructor
  ·rintro ((h1 | h1) | ⟨q,hq,h1⟩)
   ·exact Or.inl h1
   ·exact Or.inr ⟨p,Or.inl rfl,by omega,by omega⟩
   ·exact Or.inr ⟨q,Or.inr hq,h1⟩
  ·rintro (h1 | ⟨q,rfl | hq,h1⟩)
   ·exact Or.inl (Or.inl h1)
   ·exact Or.inl (Or.inr (by omega))
   ·exact Or.inr ⟨q,hq,h1⟩
theorem Yf (s:OSet):unn (ZX s)=s:=by
 have ok:=Aao s 256;refine BitVec.eq_of_getLsbD_eq fun k hk=>?_
 rw [Bool.eq_iff_iff];unfold unn;rw [Ns k (ZX s) oz (fun p hp=>ok.le p hp)];have:=ok.mem k hk;unfold ohas at this;rw [this];simp [oz,ZX]
theorem Yg (s:OSet) (h:ZX s=[]):s=oz:=by rw [←Yf s,h];rfl
theorem Sy (s:OSet) (p:Nat × Nat) (l:List (Nat × Nat)) (h:ZX s=p :: l):p.1 < 256∧ohas s p.1=true∧∀ b,b < p.1→ohas s b=false:=by
 have ok:=Aao s 256;have e:Im s 256=p :: l:=h;rw [e] at ok;have hp:=ok.le p (by simp);refine ⟨by omega,(ok.mem p.1 (by omega)).2 ⟨p,by simp,by omega,by omega⟩,fun b hb=>?_⟩;cases hx:ohas s b
 ·rfl
 ·exfalso;obtain ⟨q,hq,h1,h2⟩:=(ok.mem b (by omega)).1 hx
  -- every span begins at p.1 or later
  have key:∀ i,∀ hi:i < (p :: l).length,p.1≤((p :: l)[i]'hi).1:=by
   intro i;induction i with
   | zero=>intro hi;exact Aec _
   | succ i ih=>
    intro hi;have h3:=ih (by omega);have h4:=ok.apart i hi;have h5:=ok.le _ (List.getElem_mem (l:=p :: l) (n:=i) (by omega));omega
  obtain ⟨i,hi,rfl⟩:=List.getElem_of_mem hq;have:=key i hi;omega
end
section
inductive Tr where
 | mk (kind:Int) (set:OSet) (mn mx num:Int) (kids:List Tr)
def Tr.kind:Tr→Int | .mk k _ _ _ _ _=>k
def Tr.set:Tr→OSet | .mk _ s _ _ _ _=>s
def Tr.mn:Tr→Int | .mk _ _ a _ _ _=>a
def Tr.mx:Tr→Int | .mk _ _ _ b _ _=>b
def Tr.num:Tr→Int | .mk _ _ _ _ c _=>c
def Tr.parts:Tr→List Tr | .mk _ _ _ _ _ ps=>ps
def tz:Tr:=.mk 0 oz 0 0 0 []
instance:Inhabited Tr:=⟨tz⟩
end
section
inductive Nd where
 | empty
 | one (s:OSet)
 | cat (l:List Nd)
 | alt (l:List Nd)
 | rep (d:Nd) (mn mx:Int)
 | group (num:Int) (d:Nd)
 | back (num:Int)
 | start
 | fin
instance:Inhabited Nd:=⟨.empty⟩
def Ck:Nd→List Nd
 | .cat l=>l
 | .alt l=>l
 | .rep d _ _=>[d]
 | .group _ d=>[d]
 | _=>[]
mutual
/-- How many nodes. -/
def Aw:Nd→Nat
 | .cat l=>1+Az l
 | .alt l=>1+Az l
 | .rep d _ _=>1+Aw d
 | .group _ d=>1+Aw d
 | _=>1
def Az:List Nd→Nat
 | []=>0
 | d :: ds=>Aw d+Az ds
end
mutual
/-- How many groups. -/
def Cu:Nd→Nat
 | .cat l=>F1 l
 | .alt l=>F1 l
 | .rep d _ _=>Cu d
 | .group _ d=>Cu d+1
 | _=>0
def F1:List Nd→Nat
 | []=>0
 | d :: ds=>Cu d+F1 ds
end
mutual
/-- Are two the same? -/
def Dh:Nd→Nd→Bool
 | .empty,.empty=>true
 | .one s,.one t=>decide (s=t)
 | .cat l,.cat m=>DU l m
 | .alt l,.alt m=>DU l m
 | .rep d a b,.rep e a' b'=>decide (a=a') && decide (b=b') && Dh d e
 | .group n d,.group m e=>decide (n=m) && Dh d e
 | .back n,.back m=>decide (n=m)
 | .start,.start=>true
 | .fin,.fin=>true
 | _,_=>false
def DU:List Nd→List Nd→Bool
 | [],[]=>true
 | d :: ds,e :: es=>Dh d e && DU ds es
 | _,_=>false
end
def inCat:Nd→Bool
 | .empty=>false
 | .cat _=>false
 | .alt _=>false
 | _=>true
def inAlt:Nd→Bool
 | .alt _=>false
 | _=>true
def GN:Nd→Bool
 | .empty=>false
 | .start=>false
 | .fin=>false
 | .cat _=>false
 | .alt _=>false
 | _=>true
def Jw (mn mx:Int):Bool:=decide (0≤mn) && decide (mn≤255) && (decide (mx=-1) || (decide (mn≤mx) && decide (mx≤255)))
mutual
/-- Is a node right, when so many groups were opened, and these were closed? What was opened and closed then. -/
def Bt:Nd→Int→List Int→Option (Int × List Int)
 | .cat l,o,c=>if decide (2≤l.length) && l.all inCat then BW l o c else none
 | .alt l,o,c=>if decide (2≤l.length) && l.all inAlt then BW l o c else none
 | .rep d mn mx,o,c=>if Jw mn mx && GN d then Bt d o c else none
 | .group n d,o,c=>if n=o+1 then (Bt d (o+1) c).map fun r=>(r.1,r.2++[n]) else none
 | .back n,o,c=>if c.contains n then some (o,c) else none
 | _,o,c=>some (o,c)
def BW:List Nd→Int→List Int→Option (Int × List Int)
 | [],o,c=>some (o,c)
 | d :: ds,o,c=>match Bt d o c with
  | none=>none
  | some r=>BW ds r.1 r.2
end
theorem Jy (d:Nd):Aw d=1+Az (Ck d):=by cases d <;> simp [Aw,Ck,Az]
theorem Dy (a b:List Nd):Az (a++b)=Az a+Az b:=by
 induction a with
 | nil=>simp [Az]
 | cons t ts ih=>rw [List.cons_append,Az,Az,ih];omega
def IW:Nd→Bool
 | .group _ _=>true
 | _=>false
def Aap:Nd→Bool
 | .back _=>true
 | _=>false
theorem Gt (ps:List Nd):ps.length≤Az ps:=by
 induction ps with
 | nil=>simp [Az]
 | cons t ts ih=>have:=Jy t;rw [Az,List.length_cons];omega
def EE:Nd→Nd→Bool
 | .empty,.empty=>true
 | .one s,.one t=>decide (s=t)
 | .cat _,.cat _=>true
 | .alt _,.alt _=>true
 | .rep _ a b,.rep _ a' b'=>decide (a=a') && decide (b=b')
 | .group n _,.group m _=>decide (n=m)
 | .back n,.back m=>decide (n=m)
 | .start,.start=>true
 | .fin,.fin=>true
 | _,_=>false
theorem Pd (d e:Nd):Dh d e=(EE d e && DU (Ck d) (Ck e)):=by
 cases d <;> cases e <;> simp [Dh,EE,Ck,DU]
theorem Pe (l m:List Nd) (h:l.length≠m.length):DU l m=false:=by
 induction l generalizing m with
 | nil=>
  cases m with
  | nil=>simp at h
  | cons e es=>rfl
 | cons d ds ih=>
  cases m with
  | nil=>rfl
  | cons e es=>rw [DU,ih es (by simpa using h),Bool.and_false]
end
section
def Bm:Nd→List Nd
 | .empty=>[]
 | .cat l=>l
 | d=>[d]
def AP:Nd→List Nd
 | .alt l=>l
 | d=>[d]
def AI (l:List Nd):List Nd:=l.flatMap Bm
def AJ (l:List Nd):List Nd:=l.flatMap AP
def Bu (l:List Nd):Nd:=match AI l with
 | []=>.empty
 | [d]=>d
 | ds=>.cat ds
def Cl (l:List Nd):Nd:=match AJ l with
 | []=>.empty
 | [d]=>d
 | ds=>.alt ds
theorem KZ (f:Nd→List Nd) (l:List Nd) (k:Nat) (h:k < l.length):(l.take (k+1)).flatMap f=(l.take k).flatMap f++f l[k]:=by
 rw [List.take_succ_eq_append_getElem h,List.flatMap_append];simp
theorem Rq (f:Nd→List Nd) (l:List Nd) (k:Nat):((l.take k).flatMap f).length≤(l.flatMap f).length:=by
 have h:=congrArg List.length (congrArg (List.flatMap f) (List.take_append_drop k l));rw [List.flatMap_append,Aee] at h;omega
end
section
def EF (d:Nd) (es:List Bool):Bool:=match d with
 | .cat l=>decide (2≤l.length) && l.all inCat
 | .alt l=>decide (2≤l.length) && l.all inAlt
 | .rep d mn mx=>Jw mn mx && GN d
 | .group n _=>decide (n=(es.length:Int)+1)
 | .back n=>decide (1≤n) && decide (n≤es.length) && es.getD (n - 1).toNat false
 | _=>true
end
section
mutual
/-- What comes of a node, and of nodes. -/
def Fx:Nd→List (Nd × Bool)
 | .cat l=>(.cat l,true) :: (Fy l++[(.cat l,false)])
 | .alt l=>(.alt l,true) :: (Fy l++[(.alt l,false)])
 | .rep d a b=>(.rep d a b,true) :: (Fx d++[(.rep d a b,false)])
 | .group n d=>(.group n d,true) :: (Fx d++[(.group n d,false)])
 | .empty=>[(.empty,true),(.empty,false)]
 | .one s=>[(.one s,true),(.one s,false)]
 | .back n=>[(.back n,true),(.back n,false)]
 | .start=>[(.start,true),(.start,false)]
 | .fin=>[(.fin,true),(.fin,false)]
def Fy:List Nd→List (Nd × Bool)
 | []=>[]
 | d :: ds=>Fx d++Fy ds
end
theorem EG (d:Nd):Fx d=(d,true) :: (Fy (Ck d)++[(d,false)]):=by cases d <;> simp [Fx,Ck,Fy]
mutual
theorem Fa:∀ d:Nd,(Fx d).length=2 * Aw d
 | .cat l=>by have:=Jz l;simp [Fx,Aw,this];omega
 | .alt l=>by have:=Jz l;simp [Fx,Aw,this];omega
 | .rep d _ _=>by have:=Fa d;simp [Fx,Aw,this];omega
 | .group _ d=>by have:=Fa d;simp [Fx,Aw,this];omega
 | .empty=>rfl
 | .one _=>rfl
 | .back _=>rfl
 | .start=>rfl
 | .fin=>rfl
theorem Jz:∀ l:List Nd,(Fy l).length=2 * Az l
 | []=>rfl
 | d :: ds=>by have:=Fa d;have:=Jz ds;simp [Fy,Az, *];omega
end
def IZ:List (Nd × List Nd)→List (Nd × Bool)
 | []=>[]
 | x :: s=>IZ s++(Fy x.2++[(x.1,false)])
theorem CQ (s:List (Nd × List Nd)) (d:Nd) (r:List Nd):IZ (s++[(d,r)])=Fy r++((d,false) :: IZ s):=by
 induction s with
 | nil=>simp [IZ]
 | cons x s ih=>rw [List.cons_append,IZ,ih,IZ];simp
theorem Rr (s:List (Nd × List Nd)):s.length≤(IZ s).length:=by
 induction s with
 | nil=>simp
 | cons x s ih=>rw [IZ];simp;omega
end
section
def Yh:Nd→Int
 | .group n _=>n
 | _=>0
inductive RS where
 | no
 | bad
 | ok (es:List Bool)
def rs (s:RS) (x:Nd × Bool):RS:=match s with
 | .ok es=>if x.2 then (if EF x.1 es then .ok (if IW x.1 then es++[false] else es) else .no)
  else if IW x.1 then (if 1≤Yh x.1∧Yh x.1≤(es.length:Int) then .ok (es.set (Yh x.1 - 1).toNat true) else .bad) else .ok es
 | .no=>.no
 | .bad=>.bad
def UD (s:RS) (l:List (Nd × Bool)):RS:=l.foldl rs s
theorem DV (s:RS) (l m:List (Nd × Bool)):UD s (l++m)=UD (UD s l) m:=by unfold UD;rw [List.foldl_append]
theorem Cq (s:RS) (x:Nd × Bool) (l:List (Nd × Bool)):UD s (x :: l)=UD (rs s x) l:=rfl
theorem DW (l:List (Nd × Bool)):UD .no l=.no:=by
 induction l with
 | nil=>rfl
 | cons x l ih=>rw [Cq];exact ih
def RR (es:List Bool) (o:Int) (c:List Int):Prop:=o=(es.length:Int)∧∀ n:Int,c.contains n=(decide (1≤n) && decide (n≤(es.length:Int)) && es.getD (n - 1).toNat false)
def ROk (es:List Bool) (s:RS) (r:Option (Int × List Int)):Prop:=match r with
 | none=>s=.no
 | some q=>∃ es',s=.ok es'∧RR es' q.1 q.2∧es.length≤es'.length
theorem EH {es:List Bool} {o:Int} {c:List Int} (h:RR es o c):ROk es (.ok es) (some (o,c)):=⟨es,rfl,h,Aec _⟩
theorem F2 {d:Nd} {es:List Bool} (h:EF d es=false):rs (.ok es) (d,true)=.no:=by simp [rs,h]
theorem Rs {d:Nd} {es:List Bool} (h:EF d es=true) (hg:IW d=false):rs (.ok es) (d,true)=.ok es:=by simp [rs,h,hg]
theorem LX {d:Nd} (s:RS) (hg:IW d=false):rs s (d,false)=s:=by cases s <;> simp [rs,hg]
theorem LY {es:List Bool} {o:Int} {c:List Int} (h:RR es o c):RR (es++[false]) (o+1) c:=by
 obtain ⟨h1,h2⟩:=h;refine ⟨by simp;omega,fun n=>?_⟩;rw [h2 n];by_cases hn:n≤(es.length:Int)
 ·by_cases hn1:1≤n
  ·rw [List.getD_eq_getElem?_getD,List.getD_eq_getElem?_getD,List.getElem?_append_left (by omega)];rw [decide_eq_true hn,decide_eq_true (show n≤((es++[false]).length:Int) by simp;omega)]
  ·simp [hn1]
 ·by_cases hn1:n=(es.length:Int)+1
  ·subst hn1;simp
  ·simp [hn];intro _ hh;omega
theorem Nt {es:List Bool} {o:Int} {c:List Int} (h:RR es o c) {n:Int} (h1:1≤n) (h2:n≤(es.length:Int)):RR (es.set (n - 1).toNat true) o (c++[n]):=by
 obtain ⟨g1,g2⟩:=h;refine ⟨by simpa using g1,fun m=>?_⟩;have hc:(c++[n]).contains m=(c.contains m || (m == n)):=by
  simp;rfl
 rw [hc,g2 m,List.length_set];by_cases hm:m=n
 ·subst hm;rw [decide_eq_true h1,decide_eq_true h2,@List.getD_eq_getElem?_getD _ (es.set (m - 1).toNat true),List.getElem?_set_self (by omega)];simp
 ·have hne:(n - 1).toNat≠(m - 1).toNat∨¬ 1≤m:=by omega
  rw [beq_eq_false_iff_ne.2 hm,Bool.or_false];rcases hne with hne | hne
  ·rw [List.getD_eq_getElem?_getD,List.getD_eq_getElem?_getD,List.getElem?_set_ne hne]
  ·simp [hne]
mutual
theorem FZ:∀ (d:Nd) (es:List Bool) (o:Int) (c:List Int),RR es o c→ROk es (UD (.ok es) (Fx d)) (Bt d o c)
 | .cat l,es,o,c,h=>by
  rw [Fx,Cq,DV,Bt];cases hf:decide (2≤l.length) && l.all inCat
  ·rw [F2 (show EF (.cat l) es=false from hf),DW,DW];rfl
  ·rw [Rs (show EF (.cat l) es=true from hf) rfl,Cq,LX _ rfl];exact G0 l es o c h
 | .alt l,es,o,c,h=>by
  rw [Fx,Cq,DV,Bt];cases hf:decide (2≤l.length) && l.all inAlt
  ·rw [F2 (show EF (.alt l) es=false from hf),DW,DW];rfl
  ·rw [Rs (show EF (.alt l) es=true from hf) rfl,Cq,LX _ rfl];exact G0 l es o c h
 | .rep d mn mx,es,o,c,h=>by
  rw [Fx,Cq,DV,Bt];cases hf:Jw mn mx && GN d
  ·rw [F2 (show EF (.rep d mn mx) es=false from hf),DW,DW];rfl
  ·rw [Rs (show EF (.rep d mn mx) es=true from hf) rfl,Cq,LX _ rfl];exact FZ d es o c h
 | .group n d,es,o,c,h=>by
  rw [Fx,Cq,DV,Bt];by_cases hn:n=o+1
  ·rw [if_pos hn];have hf:EF (.group n d) es=true:=decide_eq_true (by rw [hn,h.1]);have hi:rs (.ok es) (.group n d,true)=.ok (es++[false]):=by simp [rs,hf,IW]
   rw [hi];have ih:=FZ d (es++[false]) (o+1) c (LY h);cases hr:Bt d (o+1) c with
   | none=>
    rw [hr] at ih;rw [show UD (.ok (es++[false])) (Fx d)=.no from ih,DW];rfl
   | some q=>
    rw [hr] at ih;obtain ⟨es',h1,h2,h3⟩:=ih;rw [h1,Cq];simp at h3;have hlo:1≤n:=by have:=h.1;omega
    have hhi:n≤(es'.length:Int):=by have:=h.1;omega
    have ho:rs (.ok es') (.group n d,false)=.ok (es'.set (n - 1).toNat true):=by simp [rs,IW,Yh,hlo,hhi]
    rw [ho];exact ⟨_,rfl,Nt h2 hlo hhi,by rw [List.length_set];omega⟩
  ·rw [if_neg hn];have hf:EF (.group n d) es=false:=decide_eq_false (by rw [←h.1];exact hn);rw [F2 hf,DW,DW];rfl
 | .back n,es,o,c,h=>by
  rw [Fx,Cq,Bt,h.2 n];cases hf:(decide (1≤n) && decide (n≤(es.length:Int)) && es.getD (n - 1).toNat false)
  ·rw [F2 (show EF (.back n) es=false from hf),DW];rfl
  ·rw [Rs (show EF (.back n) es=true from hf) rfl,Cq,LX _ rfl];exact EH h
 | .empty,es,o,c,h=>EH h
 | .one _,es,o,c,h=>EH h
 | .start,es,o,c,h=>EH h
 | .fin,es,o,c,h=>EH h
theorem G0:∀ (l:List Nd) (es:List Bool) (o:Int) (c:List Int),RR es o c→ROk es (UD (.ok es) (Fy l)) (BW l o c)
 | [],es,o,c,h=>EH h
 | d :: ds,es,o,c,h=>by
  rw [Fy,DV,BW];have ih:=FZ d es o c h;cases hr:Bt d o c with
  | none=>
   rw [hr] at ih;rw [show UD (.ok es) (Fx d)=.no from ih,DW];rfl
  | some q=>
   rw [hr] at ih;obtain ⟨es',h1,h2,h3⟩:=ih;rw [h1];have ih2:=G0 ds es' q.1 q.2 h2;show ROk es _ (BW ds q.1 q.2);cases hr2:BW ds q.1 q.2 with
   | none=>rw [hr2] at ih2;exact ih2
   | some q2=>
    rw [hr2] at ih2;obtain ⟨es2,g1,g2,g3⟩:=ih2;exact ⟨es2,g1,g2,Aed h3 g3⟩
end
theorem Aaq:RR [] 0 []:=⟨rfl,fun n=>by
 by_cases h1:1≤n
 ·have h2:decide (n≤(([]:List Bool).length:Int))=false:=decide_eq_false (by simp;omega);rw [h2];simp
 ·rw [decide_eq_false h1];rfl⟩
end
section
theorem F3 (d:Nd) (o:Int) (c:List Int):BW [d] o c=Bt d o c:=by
 rw [BW];cases Bt d o c with
 | none=>rfl
 | some r=>rfl
theorem J0 (l m:List Nd) (o:Int) (c:List Int):BW (l++m) o c=(BW l o c).bind fun r=>BW m r.1 r.2:=by
 induction l generalizing o c with
 | nil=>rfl
 | cons d ds ih=>
  rw [List.cons_append,BW,BW];cases Bt d o c with
  | none=>rfl
  | some r=>exact ih r.1 r.2
end
section
theorem LZ (d:Nd):Az (Bm d)≤Aw d:=by cases d <;> simp [Bm,Aw,Az]
theorem Ma (d:Nd):Az (AP d)≤Aw d:=by cases d <;> simp [AP,Aw,Az]
mutual
theorem DX:∀ d:Nd,Dh d d=true
 | .cat l=>F4 l
 | .alt l=>F4 l
 | .rep d a b=>by simp [Dh,DX d]
 | .group n d=>by simp [Dh,DX d]
 | .one s=>by simp [Dh]
 | .back n=>by simp [Dh]
 | .empty=>rfl
 | .start=>rfl
 | .fin=>rfl
theorem F4:∀ l:List Nd,DU l l=true
 | []=>rfl
 | d :: ds=>by rw [DU,DX d,F4 ds];rfl
end
end
section
def Di (b:UInt8):List UInt8:=if b.toNat < 128 then [b] else [UInt8.ofNat (192+b.toNat / 64),UInt8.ofNat (128+b.toNat % 64)]
def Ao (l:List UInt8):List UInt8:=l.flatMap Di
theorem Pf (b:UInt8):UInt8.ofNat b.toNat=b:=by simp
theorem IE (n:Nat) (h:n < 256):(UInt8.ofNat n).toNat=n:=by simp;omega
theorem Pg (b:UInt8) (l:List UInt8):Ao (b :: l)=Di b++Ao l:=by simp [Ao]
theorem J1 (l:List UInt8) (b:UInt8):Ao (l++[b])=Ao l++Di b:=by simp [Ao]
theorem La (b:UInt8):1≤(Di b).length∧(Di b).length≤2:=by unfold Di;split <;> simp
theorem Lb:∀ l:List UInt8,(Ao l).length≤2 * l.length
 | []=>by simp [Ao]
 | b :: l=>by have h:=Lb l;have:=La b;rw [Pg,Aee,List.length_cons];omega
theorem Sz:∀ n:Fin 256,Lib.encodeRune (n.val:Int)=Di (UInt8.ofNat n.val):=by decide +kernel
theorem S0 (b:UInt8):Lib.encodeRune (b.toNat:Int)=Di b:=by
 have h:=Sz ⟨b.toNat,b.toNat_lt⟩;simp only [Pf] at h;exact h
/-- Decoding by the list's own bytes. -/
theorem GO (s:ByteArray) (i:Nat):s.data.toList.getD i 0=s.get! i:=by
 cases s with
 | mk d=>
  show d.toList.getD i 0=d[i]!;by_cases h:i < d.size
  ·rw [getElem!_pos d i h];simp [List.getD,h]
  ·rw [getElem!_neg d i h];simp [List.getD,h];rfl
theorem Ad (s:ByteArray):s.size=s.data.toList.length:=rfl
theorem E0 (s:ByteArray) (pos:Nat):Utf8.decode s pos=Lib.decodeN (s.data.toList.length - pos) (s.data.toList.getD pos 0).toNat (s.data.toList.getD (pos+1) 0).toNat (s.data.toList.getD (pos+2) 0).toNat (s.data.toList.getD (pos+3) 0).toNat:=by
 rw [Lib.decode_at,←GO,←GO,←GO,←GO,Ad]
theorem IF (n b c d e:Nat) (h:b < 128):Lib.decodeN n b c d e=(b,1):=by rw [Lib.decodeN,if_pos h]
theorem Nu (n b c d e:Nat) (hn:1 < n) (h:b=194∨b=195) (h1:128≤c) (h2:c < 192):Lib.decodeN n b c d e=((b - 192) * 64+c - 128,2):=by
 rw [Lib.decodeN,if_neg (by omega),if_pos (by omega),if_pos (by omega)];refine Prod.ext ?_ rfl;simp only;omega
def txt (l:List UInt8):ByteArray:=⟨l.toArray⟩
theorem CR (l:List UInt8):(txt l).size=l.length:=by simp [txt,ByteArray.size]
theorem DY (l:List UInt8):(txt l).data.toList=l:=rfl
theorem Aar (s:ByteArray):txt s.data.toList=s:=by cases s;rfl
/-- Decoding a wide text: the sign of the byte that stands there. -/
theorem Nv (a:List UInt8) (b:UInt8) (c:List UInt8) :
  Utf8.decode (txt (Ao a++(Di b++Ao c))) (Ao a).length=(b.toNat,(Di b).length):=by
 rw [E0,DY];have hb:=b.toNat_lt;have g:∀ k,(Ao a++(Di b++Ao c)).getD ((Ao a).length+k) 0=(Di b++Ao c).getD k 0:=by
  intro k;simp only [List.getD];rw [List.getElem?_append_right (by omega),show (Ao a).length+k - (Ao a).length=k by omega]
 have g0:=g 0;rw [Nat.add_zero] at g0;rw [g0,g 1,g 2,g 3,Aee,Aee];unfold Di;by_cases hl:b.toNat < 128
 ·rw [if_pos hl];simp only [List.cons_append,List.nil_append,List.getD_cons_zero];rw [IF _ _ _ _ _ hl];rfl
 ·rw [if_neg hl];simp only [List.cons_append,List.nil_append,List.getD_cons_zero,List.getD_cons_succ,List.length_cons,List.length_nil];have e1:(UInt8.ofNat (192+b.toNat / 64)).toNat=192+b.toNat / 64:=IE _ (by omega);have e2:(UInt8.ofNat (128+b.toNat % 64)).toNat=128+b.toNat % 64:=IE _ (by omega);rw [Nu _ _ _ _ _ (by omega) (by rw [e1];omega) (by rw [e2];omega) (by rw [e2];omega),e1,e2];refine Prod.ext ?_ rfl;simp only;omega
end
section
def AF (p:UInt8→Bool) (l:List UInt8):Nat:=(l.takeWhile p).length
theorem In (p:UInt8→Bool):AF p []=0:=rfl
theorem Br {p:UInt8→Bool} {c:UInt8} {l:List UInt8} (h:p c=true):AF p (c :: l)=AF p l+1:=by simp [AF,h]
theorem Cr {p:UInt8→Bool} {c:UInt8} {l:List UInt8} (h:p c=false):AF p (c :: l)=0:=by simp [AF,h]
theorem Bw (p:UInt8→Bool):∀ l,AF p l≤l.length
 | []=>Aec _
 | c :: l=>by
  cases h:p c with
  | true=>rw [Br h];have:=Bw p l;simp;omega
  | false=>rw [Cr h];omega
theorem J2 (p:UInt8→Bool):∀ l:List UInt8,l.dropWhile p=l.drop (AF p l)
 | []=>rfl
 | c :: l=>by
  cases h:p c with
  | true=>rw [Br h,List.dropWhile_cons,h];simp [J2 p l]
  | false=>rw [Cr h,List.dropWhile_cons,h];simp
theorem GQ (p:UInt8→Bool):∀ (l:List UInt8) (j:Nat) b,j < AF p l→l[j]?=some b→p b=true
 | [],j,b,h,_=>by simp [In] at h
 | c :: l,j,b,h,hb=>by
  cases hc:p c with
  | false=>rw [Cr hc] at h;omega
  | true=>
   rw [Br hc] at h;cases j with
   | zero=>simp at hb;rw [←hb];exact hc
   | succ j=>exact GQ p l j b (by omega) (by simpa using hb)
theorem Bi (s:ByteArray) (k:Nat) (h:k < s.size):s.data.toList.drop k=s[k] :: s.data.toList.drop (k+1):=by
 rw [List.drop_eq_getElem_cons (by simpa using h)];rfl
theorem Bn (s:ByteArray) (k:Nat) (h:s.size≤k):s.data.toList.drop k=[]:=List.drop_eq_nil_of_le (by rw [←Ad];exact h)
theorem GR (p:UInt8→Bool) (s:ByteArray) (k:Nat) (hk:k≤s.size):k+AF p (s.data.toList.drop k)≤s.size:=by
 have:=Bw p (s.data.toList.drop k);rw [List.length_drop,←Ad] at this;omega
def EI (cs:List UInt8) (l:List UInt8):Nat:=AF (fun b=>cs.contains b) l
theorem S1 (cs l:List UInt8):(Lib.trimLeftS l cs).length+EI cs l=l.length:=by
 unfold Lib.trimLeftS EI;rw [J2,List.length_drop];have:=Bw (fun b=>cs.contains b) l;omega
def C6 (cs L:List UInt8) (at':Int):Nat:=if 0≤at'∧at'≤L.length then at'.toNat+EI cs (L.drop at'.toNat) else 0
theorem D4 (cs L:List UInt8) (k:Nat) (h:k≤L.length):C6 cs L k=k+EI cs (L.drop k):=by
 unfold C6;rw [if_pos (by omega)];simp
theorem IG (cs L:List UInt8) (at':Int) (h:¬ (0≤at'∧at'≤L.length)):C6 cs L at'=0:=by
 unfold C6;rw [if_neg h]
abbrev E1:=List UInt8 × Nat × Nat
def Aas {α:Type} (L:List UInt8) (at':Int) (z:α) (f:Nat→α):α:=if 0≤at'∧at'≤L.length then f at'.toNat else z
theorem Dz {α:Type} (L:List UInt8) (k:Nat) (z:α) (f:Nat→α) (h:k≤L.length):Aas L k z f=f k:=by unfold Aas;rw [if_pos (by omega)];simp
def A4:List UInt8:=[48,49,50,51,52,53,54,55,56,57]
theorem DH (b:UInt8):A4.contains b=(decide (48≤b.toNat) && decide (b.toNat≤57)):=by
 have h:∀ b:Fin 256,A4.contains (UInt8.ofNat b.val)=(decide (48≤(UInt8.ofNat b.val).toNat) && decide ((UInt8.ofNat b.val).toNat≤57)):=by decide +kernel
 have:=h ⟨b.toNat,b.toNat_lt⟩;simpa using this
def EJ (l:List UInt8):Nat:=l.foldl (fun n b=>n * 10+(b.toNat - 48)) 0
theorem Ph (l:List UInt8) (b:UInt8):EJ (l++[b])=EJ l * 10+(b.toNat - 48):=by simp [EJ]
theorem J3:∀ (l:List UInt8) (n:Nat),(∀ b∈l,A4.contains b=true)→l.foldl (fun n b=>n * 10+(b.toNat - 48)) n < (n+1) * 10 ^ l.length
 | [],n,_=>by simp
 | b :: l,n,h=>by
  have hb:=h b (by simp);rw [DH] at hb;simp at hb;have ih:=J3 l (n * 10+(b.toNat - 48)) (fun x hx=>h x (by simp [hx]));rw [List.foldl_cons,List.length_cons,Nat.pow_succ];have h2:(n * 10+(b.toNat - 48)+1) * 10 ^ l.length≤((n+1) * 10) * 10 ^ l.length:=Nat.mul_le_mul_right _ (by omega);rw [Nat.mul_assoc,Nat.mul_comm 10] at h2;omega
theorem UE (l:List UInt8) (h:∀ b∈l,A4.contains b=true):EJ l < 10 ^ l.length:=by
 have:=J3 l 0 h;unfold EJ;omega
theorem Pi (l:List UInt8) (h:∀ b∈l,A4.contains b=true) (h9:l.length≤9):EJ l < 1000000000:=by
 have h1:=UE l h;have h2:10 ^ l.length≤10 ^ 9:=Nat.pow_le_pow_right (by omega) h9;omega
def Bx (L:List UInt8) (k:Nat):Nat × Nat × Nat:=
 let n:=EI A4 (L.drop k)
 if n=0 then (0,k,2) else if 9 < n then (0,k,3) else (EJ ((L.drop k).take n),k+n,0)
def By:List UInt8→Nat→List UInt8→E1
 | [],p,acc=>(acc++[10],p,0)
 | [c],p,acc=>if c=10 then (acc++[10],p+1,0) else if c=92 then ([],p,11) else (acc++[c]++[10],p+1,0)
 | c :: x :: u,p,acc=>if c=10 then (acc++[10],p+1,0) else if c=92 then By u (p+2) (acc++[x]) else By (x :: u) (p+1) (acc++[c])
theorem DZ (t:List UInt8) (p:Nat) (acc:List UInt8):By (10 :: t) p acc=(acc++[10],p+1,0):=by cases t <;> simp [By]
theorem Ed (x:UInt8) (u:List UInt8) (p:Nat) (acc:List UInt8):By (92 :: x :: u) p acc=By u (p+2) (acc++[x]):=by simp [By]
theorem Dp (p:Nat) (acc:List UInt8):By [92] p acc=([],p,11):=by simp [By]
theorem CD (c:UInt8) (t:List UInt8) (p:Nat) (acc:List UInt8) (h1:¬ c=10) (h2:¬ c=92):By (c :: t) p acc=By t (p+1) (acc++[c]):=by
 cases t <;> simp [By,h1,h2]
def Fb (label:Bool) (b:UInt8):Bool:=b == 10 || (label && b == 59)
def Ee (label:Bool) (l:List UInt8):Nat:=AF (fun b=>!Fb label b) l
def Ef (n:List UInt8) (k e:Nat):E1:=if n=[] then ([],k,14) else if 40 < n.length then ([],k,3) else (n,e,0)
def Bo (L:List UInt8) (k:Nat) (label:Bool):E1:=
 Ef (Lib.trimS ((L.drop k).take (Ee label (L.drop k))) [32,9]) k (k+Ee label (L.drop k))
def D5 (c:UInt8) (l:List UInt8):Nat:=match l with | []=>0 | x :: _=>if x=c then 1 else 0
def Bz (t:List UInt8):Nat:=D5 94 t+D5 93 (t.drop (D5 94 t))
def Cc (t:List UInt8):Nat:=1+Bz t+min (AF (fun b=>!(b == 93)) (t.drop (Bz t))+1) (t.drop (Bz t)).length
def AV (d:UInt8) (rx:Bool) (c:UInt8) (t:List UInt8) (p:Nat):E1:=
 if c=92 then
  match t with
  | []=>([],p+1,5)
  | x :: _=>if x=d then ([x],p+2,0) else if (x == 10 && rx)=true then ([],p+1,2) else ([92,x],p+2,0)
 else
  let k:=if (rx && c == 91)=true then Cc t else 1
  let i:=AF (fun b=>!(b == 10)) ((c :: t).take k)
  if i < k then ([],p+i,2) else ((c :: t).take k,p+k,0)
def Cm (d:UInt8) (rx:Bool) (L:List UInt8):Nat→Nat→List UInt8→E1
 | 0,_,_=>([],L.length,5)
 | n+1,p,acc=>
  match L.drop p with
  | []=>([],L.length,5)
  | c :: t=>if c=d then (acc,p+1,0) else if (AV d rx c t p).2.2=0 then Cm d rx L n (AV d rx c t p).2.1 (acc++(AV d rx c t p).1) else AV d rx c t p
theorem Dq {d:UInt8} {rx:Bool} {L:List UInt8} {n p:Nat} {acc:List UInt8} (h:L.drop p=[]):Cm d rx L (n+1) p acc=([],L.length,5):=by rw [Cm,h]
theorem Dr {d:UInt8} {rx:Bool} {L t:List UInt8} {n p:Nat} {acc:List UInt8} (h:L.drop p=d :: t):Cm d rx L (n+1) p acc=(acc,p+1,0):=by rw [Cm,h];simp
theorem CE {d c:UInt8} {rx:Bool} {L t x:List UInt8} {n p k:Nat} {acc:List UInt8} (h:L.drop p=c :: t) (hc:¬ c=d) (hp:AV d rx c t p=(x,k,0)):Cm d rx L (n+1) p acc=Cm d rx L n k (acc++x):=by rw [Cm,h];simp [hc,hp]
theorem DQ {d c:UInt8} {rx:Bool} {L t x:List UInt8} {n p k e:Nat} {acc:List UInt8} (h:L.drop p=c :: t) (hc:¬ c=d) (he:¬ e=0) (hp:AV d rx c t p=(x,k,e)):Cm d rx L (n+1) p acc=(x,k,e):=by rw [Cm,h];simp [hc,hp,he]
theorem GS (c:UInt8) (l:List UInt8):D5 c l≤l.length:=by
 unfold D5;split
 ·simp
 ·split <;> simp
theorem G1 (t:List UInt8):Bz t≤t.length:=by
 have h1:=GS 94 t;have h2:=GS 93 (t.drop (D5 94 t));rw [List.length_drop] at h2;unfold Bz;omega
theorem J4 (t:List UInt8):Cc t≤t.length+1:=by
 have h1:=G1 t;have h2:(t.drop (Bz t)).length=t.length - Bz t:=List.length_drop;unfold Cc;omega
theorem Lc (t:List UInt8):1≤Cc t:=by unfold Cc;omega
theorem EK {d c:UInt8} {rx:Bool} {t x:List UInt8} {p k:Nat} (h:AV d rx c t p=(x,k,0)):p < k∧k≤p+1+t.length∧x.length≤k - p:=by
 unfold AV at h;split at h
 ·split at h
  ·simp at h
  ·split at h
   ·simp at h;obtain ⟨rfl,rfl⟩:=h;simp;try omega
   ·split at h
    ·simp at h
    ·simp at h;obtain ⟨rfl,rfl⟩:=h;simp;try omega
 ·simp only at h;have hb:1≤(if (rx && c == 91)=true then Cc t else 1)∧(if (rx && c == 91)=true then Cc t else 1)≤t.length+1:=by
   split
   ·exact ⟨Lc t,J4 t⟩
   ·omega
  generalize (if (rx && c == 91)=true then Cc t else 1)=k' at h hb;split at h
  ·simp at h
  ·simp only [Prod.mk.injEq,and_true] at h;obtain ⟨rfl,rfl⟩:=h;have:=List.length_take_le k' (c :: t);omega
theorem G2 {d c:UInt8} {rx:Bool} {t x:List UInt8} {p k e:Nat} (h:AV d rx c t p=(x,k,e)) (he:¬ e=0):x=[]∧k≤p+1+t.length∧(e=2∨e=5):=by
 unfold AV at h;split at h
 ·split at h
  ·simp at h;obtain ⟨rfl,rfl,rfl⟩:=h;simp
  ·split at h
   ·simp at h;omega
   ·split at h
    ·simp at h;obtain ⟨rfl,rfl,rfl⟩:=h;simp;try omega
    ·simp at h;omega
 ·simp only at h;have hb:(if (rx && c == 91)=true then Cc t else 1)≤t.length+1:=by
   split
   ·exact J4 t
   ·omega
  generalize (if (rx && c == 91)=true then Cc t else 1)=k' at h hb;split at h
  ·simp only [Prod.mk.injEq] at h;obtain ⟨rfl,rfl,rfl⟩:=h;simp;try omega
  ·simp only [Prod.mk.injEq] at h;omega
theorem Ga:∀ (l:List UInt8) (c:UInt8),Lib.indexByte l c=if AF (fun b=>!(b == c)) l < l.length then (AF (fun b=>!(b == c)) l:Int) else -1
 | [],c=>by simp [Lib.indexByte,In]
 | b :: l,c=>by
  rw [Lib.indexByte];cases h:(b == c) with
  | true=>rw [Cr (by simp [h])];rfl
  | false=>
   rw [Br (by simp [h]),Ga l c];simp only [List.length_cons,Bool.false_eq_true,if_false];have:=Bw (fun b=>!(b == c)) l;by_cases h1:AF (fun b=>!(b == c)) l < l.length
   ·rw [if_pos h1,if_neg (by simp),if_pos (by omega)];simp
   ·rw [if_neg h1,if_pos (by simp),if_neg (by omega)]
theorem GT (cs:List UInt8):∀ l:List UInt8,Lib.indexAny l cs=if AF (fun b=>!cs.contains b) l < l.length then (AF (fun b=>!cs.contains b) l:Int) else -1
 | []=>by simp [Lib.indexAny,In]
 | b :: l=>by
  rw [Lib.indexAny];cases h:cs.contains b with
  | true=>rw [Cr (p:=fun b=>!cs.contains b) (by rw [h];rfl)];simp
  | false=>
   rw [Br (p:=fun b=>!cs.contains b) (by rw [h];rfl),GT cs l];simp only [List.length_cons,Bool.false_eq_true,if_false];have:=Bw (fun b=>!cs.contains b) l;by_cases h1:AF (fun b=>!cs.contains b) l < l.length
   ·rw [if_pos h1,if_neg (by simp),if_pos (by omega)];simp
   ·rw [if_neg h1,if_pos (by simp),if_neg (by omega)]
def Aj (L:List UInt8) (a:Int) (d:UInt8) (rx:Bool):E1:=Aas L a ([],0,1) fun k=>Cm d rx L (L.length+1) k []
end
section
open Go.RowKit Go.Shelf
set_option linter.unusedVariables false
def Rt:Go.Shelf.Ren:=⟨fun | 119=>113 | 137=>112 | 151=>82 | 152=>98 | 161=>39 | 197=>81 | 217=>54 | 224=>56 | 225=>55 | 227=>59 | 228=>80 | 231=>58 | 233=>60 | 235=>61 | 260=>97 | 266=>78 | n=>n,fun | 0=>0 | 3=>3 | 4=>4 | 5=>5 | 9=>9 | 21=>21 | 46=>125 | 105=>154 | 116=>128 | 117=>129 | 119=>181 | 124=>132 | 138=>194 | 139=>195 | n=>n,fun | 3=>1 | 4=>2 | n=>n⟩
theorem Ru:Go.Proofs.Lays.n161 Tryz.prog Rt:={
 mixed:=by kernel_rfl
 f119:=Tryz.func113.trans (congrArg some (by kernel_rfl))
 f137:=Tryz.func112.trans (congrArg some (by kernel_rfl))
 f151:=Tryz.func82.trans (congrArg some (by kernel_rfl))
 f152:=Tryz.func98.trans (congrArg some (by kernel_rfl))
 f161:=Tryz.func39.trans (congrArg some (by kernel_rfl))
 f197:=Tryz.func81.trans (congrArg some (by kernel_rfl))
 f217:=Tryz.func54.trans (congrArg some (by kernel_rfl))
 f224:=Tryz.func56.trans (congrArg some (by kernel_rfl))
 f225:=Tryz.func55.trans (congrArg some (by kernel_rfl))
 f227:=Tryz.func59.trans (congrArg some (by kernel_rfl))
 f228:=Tryz.func80.trans (congrArg some (by kernel_rfl))
 f231:=Tryz.func58.trans (congrArg some (by kernel_rfl))
 f233:=Tryz.func60.trans (congrArg some (by kernel_rfl))
 f235:=Tryz.func61.trans (congrArg some (by kernel_rfl))
 f260:=Tryz.func97.trans (congrArg some (by kernel_rfl))
 f266:=Tryz.func78.trans (congrArg some (by kernel_rfl))
 t0:=Tryz.underlying0
 a0:=Tryz.isAgg0
 z0:=Tryz.sizeOf0
 v0:=Tryz.zeroValue0
 t3:=Tryz.underlying3
 a3:=Tryz.isAgg3
 z3:=Tryz.sizeOf3
 v3:=Tryz.zeroValue3
 t4:=Tryz.underlying4
 a4:=Tryz.isAgg4
 z4:=Tryz.sizeOf4
 v4:=Tryz.zeroValue4
 t5:=Tryz.underlying5
 a5:=Tryz.isAgg5
 z5:=Tryz.sizeOf5
 v5:=Tryz.zeroValue5
 t9:=Tryz.underlying9
 a9:=Tryz.isAgg9
 z9:=Tryz.sizeOf9
 v9:=Tryz.zeroValue9
 t21:=Tryz.underlying21
 a21:=Tryz.isAgg21
 z21:=Tryz.sizeOf21
 v21:=Tryz.zeroValue21
 t46:=Tryz.underlying125
 a46:=Tryz.isAgg125
 z46:=Tryz.sizeOf125
 v46:=Tryz.zeroValue125
 t105:=Tryz.underlying154
 a105:=Tryz.isAgg154
 z105:=Tryz.sizeOf154
 v105:=Tryz.zeroValue154
 t116:=Tryz.underlying128
 a116:=Tryz.isAgg128
 z116:=Tryz.sizeOf128
 t117:=Tryz.underlying129
 a117:=Tryz.isAgg129
 z117:=Tryz.sizeOf129
 v117:=Tryz.zeroValue129
 t119:=Tryz.underlying181
 a119:=Tryz.isAgg181
 z119:=Tryz.sizeOf181
 t124:=Tryz.underlying132
 a124:=Tryz.isAgg132
 z124:=Tryz.sizeOf132
 v124:=Tryz.zeroValue132
 t138:=Tryz.underlying194
 a138:=Tryz.isAgg194
 z138:=Tryz.sizeOf194
 v138:=Tryz.zeroValue194
 t139:=Tryz.underlying195
 a139:=Tryz.isAgg195
 z139:=Tryz.sizeOf195
 v139:=Tryz.zeroValue195
 g3:=by kernel_rfl
 g4:=by kernel_rfl
}
def Yi:Go.Shelf.Ren:=⟨fun | 119=>113 | 120=>139 | 137=>112 | 151=>82 | 152=>98 | 160=>86 | 197=>81 | 217=>54 | 224=>56 | 225=>55 | 227=>59 | 228=>80 | 231=>58 | 232=>103 | 233=>60 | 234=>104 | 235=>61 | 236=>105 | 260=>97 | 266=>78 | 271=>120 | n=>n,fun | 0=>0 | 3=>3 | 4=>4 | 5=>5 | 9=>9 | 21=>21 | 46=>125 | 105=>154 | 116=>128 | 117=>129 | 119=>181 | 124=>132 | 138=>194 | 139=>195 | n=>n,fun | 3=>1 | 4=>2 | n=>n⟩
theorem Yj:Go.Proofs.Lays.n160 Tryz.prog Yi:={
 mixed:=by kernel_rfl
 f119:=Tryz.func113.trans (congrArg some (by kernel_rfl))
 f120:=Tryz.func139.trans (congrArg some (by kernel_rfl))
 f137:=Tryz.func112.trans (congrArg some (by kernel_rfl))
 f151:=Tryz.func82.trans (congrArg some (by kernel_rfl))
 f152:=Tryz.func98.trans (congrArg some (by kernel_rfl))
 f160:=Tryz.func86.trans (congrArg some (by kernel_rfl))
 f197:=Tryz.func81.trans (congrArg some (by kernel_rfl))
 f217:=Tryz.func54.trans (congrArg some (by kernel_rfl))
 f224:=Tryz.func56.trans (congrArg some (by kernel_rfl))
 f225:=Tryz.func55.trans (congrArg some (by kernel_rfl))
 f227:=Tryz.func59.trans (congrArg some (by kernel_rfl))
 f228:=Tryz.func80.trans (congrArg some (by kernel_rfl))
 f231:=Tryz.func58.trans (congrArg some (by kernel_rfl))
 f232:=Tryz.func103.trans (congrArg some (by kernel_rfl))
 f233:=Tryz.func60.trans (congrArg some (by kernel_rfl))
 f234:=Tryz.func104.trans (congrArg some (by kernel_rfl))
 f235:=Tryz.func61.trans (congrArg some (by kernel_rfl))
 f236:=Tryz.func105.trans (congrArg some (by kernel_rfl))
 f260:=Tryz.func97.trans (congrArg some (by kernel_rfl))
 f266:=Tryz.func78.trans (congrArg some (by kernel_rfl))
 f271:=Tryz.func120.trans (congrArg some (by kernel_rfl))
 t0:=Tryz.underlying0
 a0:=Tryz.isAgg0
 z0:=Tryz.sizeOf0
 v0:=Tryz.zeroValue0
 t3:=Tryz.underlying3
 a3:=Tryz.isAgg3
 z3:=Tryz.sizeOf3
 v3:=Tryz.zeroValue3
 t4:=Tryz.underlying4
 a4:=Tryz.isAgg4
 z4:=Tryz.sizeOf4
 v4:=Tryz.zeroValue4
 t5:=Tryz.underlying5
 a5:=Tryz.isAgg5
 z5:=Tryz.sizeOf5
 v5:=Tryz.zeroValue5
 t9:=Tryz.underlying9
 a9:=Tryz.isAgg9
 z9:=Tryz.sizeOf9
 v9:=Tryz.zeroValue9
 t21:=Tryz.underlying21
 a21:=Tryz.isAgg21
 z21:=Tryz.sizeOf21
 v21:=Tryz.zeroValue21
 t46:=Tryz.underlying125
 a46:=Tryz.isAgg125
 z46:=Tryz.sizeOf125
 v46:=Tryz.zeroValue125
 t105:=Tryz.underlying154
 a105:=Tryz.isAgg154
 z105:=Tryz.sizeOf154
 v105:=Tryz.zeroValue154
 t116:=Tryz.underlying128
 a116:=Tryz.isAgg128
 z116:=Tryz.sizeOf128
 t117:=Tryz.underlying129
 a117:=Tryz.isAgg129
 z117:=Tryz.sizeOf129
 v117:=Tryz.zeroValue129
 t119:=Tryz.underlying181
 a119:=Tryz.isAgg181
 z119:=Tryz.sizeOf181
 t124:=Tryz.underlying132
 a124:=Tryz.isAgg132
 z124:=Tryz.sizeOf132
 v124:=Tryz.zeroValue132
 t138:=Tryz.underlying194
 a138:=Tryz.isAgg194
 z138:=Tryz.sizeOf194
 v138:=Tryz.zeroValue194
 t139:=Tryz.underlying195
 a139:=Tryz.isAgg195
 z139:=Tryz.sizeOf195
 v139:=Tryz.zeroValue195
 g3:=by kernel_rfl
 g4:=by kernel_rfl
}
def Ja:Go.Shelf.Ren:=⟨fun | 119=>113 | 137=>112 | 152=>98 | 153=>102 | 217=>54 | 224=>56 | 225=>55 | 226=>119 | 227=>59 | 228=>80 | 266=>78 | n=>n,fun | 0=>0 | 3=>3 | 4=>4 | 5=>5 | 9=>9 | 21=>21 | 46=>125 | 116=>128 | 117=>129 | 124=>132 | n=>n,fun  | n=>n⟩
theorem Jb:Go.Proofs.Lays.n153 Tryz.prog Ja:={
 mixed:=by kernel_rfl
 f119:=Tryz.func113.trans (congrArg some (by kernel_rfl))
 f137:=Tryz.func112.trans (congrArg some (by kernel_rfl))
 f152:=Tryz.func98.trans (congrArg some (by kernel_rfl))
 f153:=Tryz.func102.trans (congrArg some (by kernel_rfl))
 f217:=Tryz.func54.trans (congrArg some (by kernel_rfl))
 f224:=Tryz.func56.trans (congrArg some (by kernel_rfl))
 f225:=Tryz.func55.trans (congrArg some (by kernel_rfl))
 f226:=Tryz.func119.trans (congrArg some (by kernel_rfl))
 f227:=Tryz.func59.trans (congrArg some (by kernel_rfl))
 f228:=Tryz.func80.trans (congrArg some (by kernel_rfl))
 f266:=Tryz.func78.trans (congrArg some (by kernel_rfl))
 t0:=Tryz.underlying0
 a0:=Tryz.isAgg0
 z0:=Tryz.sizeOf0
 v0:=Tryz.zeroValue0
 t3:=Tryz.underlying3
 a3:=Tryz.isAgg3
 z3:=Tryz.sizeOf3
 v3:=Tryz.zeroValue3
 t4:=Tryz.underlying4
 a4:=Tryz.isAgg4
 z4:=Tryz.sizeOf4
 v4:=Tryz.zeroValue4
 t5:=Tryz.underlying5
 a5:=Tryz.isAgg5
 z5:=Tryz.sizeOf5
 v5:=Tryz.zeroValue5
 t9:=Tryz.underlying9
 a9:=Tryz.isAgg9
 z9:=Tryz.sizeOf9
 v9:=Tryz.zeroValue9
 t21:=Tryz.underlying21
 a21:=Tryz.isAgg21
 z21:=Tryz.sizeOf21
 v21:=Tryz.zeroValue21
 t46:=Tryz.underlying125
 a46:=Tryz.isAgg125
 z46:=Tryz.sizeOf125
 v46:=Tryz.zeroValue125
 t116:=Tryz.underlying128
 a116:=Tryz.isAgg128
 z116:=Tryz.sizeOf128
 t117:=Tryz.underlying129
 a117:=Tryz.isAgg129
 z117:=Tryz.sizeOf129
 v117:=Tryz.zeroValue129
 t124:=Tryz.underlying132
 a124:=Tryz.isAgg132
 z124:=Tryz.sizeOf132
 v124:=Tryz.zeroValue132
}
def Yk:Go.Shelf.Ren:=⟨fun | 137=>112 | 217=>54 | 266=>78 | n=>n,fun | 3=>3 | 5=>5 | 9=>9 | n=>n,fun  | n=>n⟩
theorem Yl:Go.Proofs.Lays.n137 Tryz.prog Yk:={
 mixed:=by kernel_rfl
 f137:=Tryz.func112.trans (congrArg some (by kernel_rfl))
 f217:=Tryz.func54.trans (congrArg some (by kernel_rfl))
 f266:=Tryz.func78.trans (congrArg some (by kernel_rfl))
 t3:=Tryz.underlying3
 a3:=Tryz.isAgg3
 z3:=Tryz.sizeOf3
 v3:=Tryz.zeroValue3
 t5:=Tryz.underlying5
 a5:=Tryz.isAgg5
 z5:=Tryz.sizeOf5
 v5:=Tryz.zeroValue5
 t9:=Tryz.underlying9
 a9:=Tryz.isAgg9
 z9:=Tryz.sizeOf9
 v9:=Tryz.zeroValue9
}
def Rv:Go.Shelf.Ren:=⟨fun | 166=>95 | 240=>106 | 276=>121 | n=>n,fun | 0=>0 | 3=>3 | 4=>4 | 5=>5 | 9=>9 | 20=>20 | 37=>165 | 70=>164 | 72=>167 | 75=>169 | 80=>61 | 164=>213 | n=>n,fun  | n=>n⟩
theorem UF:Go.Proofs.Lays.n166 Tryz.prog Rv:={
 mixed:=by kernel_rfl
 f166:=Tryz.func95.trans (congrArg some (by kernel_rfl))
 f240:=Tryz.func106.trans (congrArg some (by kernel_rfl))
 f276:=Tryz.func121.trans (congrArg some (by kernel_rfl))
 t0:=Tryz.underlying0
 a0:=Tryz.isAgg0
 z0:=Tryz.sizeOf0
 v0:=Tryz.zeroValue0
 t3:=Tryz.underlying3
 a3:=Tryz.isAgg3
 z3:=Tryz.sizeOf3
 v3:=Tryz.zeroValue3
 t4:=Tryz.underlying4
 a4:=Tryz.isAgg4
 z4:=Tryz.sizeOf4
 v4:=Tryz.zeroValue4
 t9:=Tryz.underlying9
 a9:=Tryz.isAgg9
 z9:=Tryz.sizeOf9
 v9:=Tryz.zeroValue9
 t20:=Tryz.underlying20
 a20:=Tryz.isAgg20
 z20:=Tryz.sizeOf20
 v20:=Tryz.zeroValue20
 t37:=Tryz.underlying165
 a37:=Tryz.isAgg165
 z37:=Tryz.sizeOf165
 v37:=Tryz.zeroValue165
 t70:=Tryz.underlying164
 a70:=Tryz.isAgg164
 z70:=Tryz.sizeOf164
 v70:=Tryz.zeroValue164
 t72:=Tryz.underlying167
 a72:=Tryz.isAgg167
 z72:=Tryz.sizeOf167
 v72:=Tryz.zeroValue167
 t75:=Tryz.underlying169
 a75:=Tryz.isAgg169
 z75:=Tryz.sizeOf169
 v75:=Tryz.zeroValue169
 t164:=Tryz.underlying213
 a164:=Tryz.isAgg213
 z164:=Tryz.sizeOf213
 v164:=Tryz.zeroValue213
}
theorem S2:Builder.Extra Tryz.prog Rv:={
 sizeBuilder:=by kernel_rfl
 liesBuilder:=by kernel_rfl
 t5:=Tryz.underlying5
 a5:=Tryz.isAgg5
 z5:=Tryz.sizeOf5
 v5:=Tryz.zeroValue5
 infoByte:=by kernel_rfl
 cellsByte:=by kernel_rfl
 sizeByte:=by kernel_rfl
 neB5:=by decide }
theorem KH (B b:Nat) (bs:List Value) (s:ByteArray) (w:World) (h:Lib.IsBuilderF 167 5 B b bs w) (hlen:bs.length+s.size≤140737488355328) (hBw:B≤w.heap.size) :
  Calls Tryz.prog 95 #[.pointer (some ⟨b,0,none⟩),.string s] w fun e w'=>e=.returned (.tuple #[.int .i64 s.size,.nilIface])∧(Lib.BuilderAtF 167 5 B b (.pointer (some ⟨b,0,none⟩)) (bs++Lib.byteCells s.data.toList) w'∧Below B w w'∧Lib.OthersKept 5 (some b) w w'):=
 Any.Builder_WriteString_k UF S2 B b bs s w h hlen hBw
theorem Pj (s cutset:ByteArray) (w:World) (hcs:cutset.size < 4294967281) (ha:∀ (j:Nat) b,cutset.data.toList[j]?=some b→b.toNat < 128) :
  Calls Tryz.prog 39 #[.string s,.string cutset] w fun e w'=>e=.returned (.string (txt (Lib.trimLeftS s.data.toList cutset.data.toList)))∧Below w.heap.size w w':=
 Any.strings_TrimLeft_laid Ru (by kernel_rfl) s cutset w hcs ha
theorem Aat (s cutset:ByteArray) (w:World) (hs:s.size≤9223372036854775807) (hcs:cutset.size < 4294967281) (ha:∀ (j:Nat) b,cutset.data.toList[j]?=some b→b.toNat < 128) :
  Calls Tryz.prog 86 #[.string s,.string cutset] w fun e w'=>e=.returned (.string (txt (Lib.trimS s.data.toList cutset.data.toList)))∧Below w.heap.size w w':=
 Any.strings_Trim_laid Yj (by kernel_rfl) s cutset w hs hcs ha
theorem F5 (s:ByteArray) (c:UInt8) (w:World) :
  Calls Tryz.prog 112 #[.string s,.int .u8 c.toNat] w fun e w'=>e=.returned (.int .i64 (Lib.indexByte s.data.toList c))∧w'=w:=by
 have h:=Any.strings_IndexByte Yl s c.toNat w;rw [Lib.byte_back'] at h;exact h
theorem Mb (s chars:ByteArray) (w:World) (h1:chars.size=1) (ha:∀ (j:Nat) b,chars.data.toList[j]?=some b→b.toNat < 128) :
  Calls Tryz.prog 102 #[.string s,.string chars] w fun e w'=>e=.returned (.int .i64 (Lib.indexAny s.data.toList chars.data.toList))∧w'=w:=
 Any.strings_IndexAny_one Jb s chars w h1 ha
theorem KI (s chars:ByteArray) (w:World) (h2:2≤chars.size) (h8:8 < s.size) (hs:s.size < 4294967281) (hcs:chars.size < 4294967281) (ha:∀ (j:Nat) b,chars.data.toList[j]?=some b→b.toNat < 128) :
  Calls Tryz.prog 102 #[.string s,.string chars] w fun e w'=>e=.returned (.int .i64 (Lib.indexAny s.data.toList chars.data.toList))∧Below w.heap.size w w':=by
 have h116:(Tryz.prog.info? (Ja.t 116)).map (fun i=>(i.zero,i.size))=some (some (.agg (Array.replicate 256 (.bool false))),256):=by kernel_rfl
 refine (Any.strings_IndexAny_long Jb (zero_of_info h116).1 (zero_of_info h116).2 s chars w h2 h8 hs hcs ha).mono fun e w' ⟨h1,h2⟩=>⟨h1,?_⟩
 rw [h2];exact ((Aeh _ _).alloc (Aec _) _).alloc (by simp) _
end
section
open Go.RowKit
theorem Cd (s:ByteArray) (k:Nat):(s.extract k s.size).data.toList=s.data.toList.drop k:=Lib.extract_to_end s k
theorem Ci (s:ByteArray) (k e:Nat):(s.extract k e).data.toList=(s.data.toList.drop k).take (e - k):=by
 rw [ByteArray.data_extract,Array.toList_extract,List.extract_eq_take_drop]
theorem EL (s:ByteArray) (k:Nat) (w:World) (h:k≤s.size):Calls Tryz.prog 38 #[.string s,.int .i64 k] w fun e w'=>e=.returned (.bool true)∧w'=w:=by
 go_enter Tryz.func38,Tryz.ntmps38;have h0:(0:Int)≤(k:Int):=by omega
 have h1:(k:Int)≤(s.size:Int):=by omega
 go_wp2
 go_ret;exact ⟨rfl,rfl⟩
theorem UG (s:ByteArray) (a:Int) (w:World) (h:¬ (0≤a∧a≤(s.size:Int))):Calls Tryz.prog 38 #[.string s,.int .i64 a] w fun e w'=>e=.returned (.bool false)∧w'=w:=by
 go_enter Tryz.func38,Tryz.ntmps38;by_cases h0:(0:Int)≤a
 ·have h1:¬ a≤(s.size:Int):=fun h1=>h ⟨h0,h1⟩
  clear h
  go_wp2
  go_ret;exact ⟨rfl,rfl⟩
 ·clear h
  go_wp2
  go_ret;exact ⟨rfl,rfl⟩
theorem G3 (s cs:ByteArray) (k:Nat) (w:World) (hs:s.size≤4000000) (hk:k≤s.size) (hcs:cs.size < 4294967281) (ha:∀ (j:Nat) b,cs.data.toList[j]?=some b→b.toNat < 128) :
  Calls Tryz.prog 31 #[.string s,.int .i64 k,.string cs] w fun e w'=>e=.returned (.int .i64 ((k+EI cs.data.toList (s.data.toList.drop k):Nat):Int))∧Below w.heap.size w w':=by
 have hP:=EL s k w hk;have hT:=Pj (s.extract k s.size) cs w hcs ha;rw [Cd] at hT;have ht:=S1 cs.data.toList (s.data.toList.drop k);rw [List.length_drop,←Ad] at ht;obtain ⟨m,hm⟩:∃ m,EI cs.data.toList (s.data.toList.drop k)=m:=⟨_,rfl⟩;rw [hm] at ht ⊢;obtain ⟨r,hr⟩:∃ r,txt (Lib.trimLeftS (s.data.toList.drop k) cs.data.toList)=r:=⟨_,rfl⟩;have hrs:r.size+m=s.size - k:=by rw [←hr,CR];exact ht
 rw [hr] at hT;clear hr ht hm ha;have hsum:IntKind.i64.wrap ((s.size:Int) - (r.size:Int))=((k+m:Nat):Int):=by rw [Aej _ (by omega)];omega
 go_enter Tryz.func31,Tryz.ntmps31;go_wp2_with (first
  | (go_at_call 38;refine hP.mono ?_;rintro e w' ⟨rfl,rfl⟩)
  | (go_at_call 39;refine hT.mono ?_;rintro e w1 ⟨rfl,hb⟩))
 go_ret;exact ⟨by go_num,hb⟩
theorem J5 (s cs:ByteArray) (a:Int) (w:World) (h:¬ (0≤a∧a≤(s.size:Int))) :
  Calls Tryz.prog 31 #[.string s,.int .i64 a,.string cs] w fun e w'=>e=.returned (.int .i64 0)∧Below w.heap.size w w':=by
 have hP:=UG s a w h;clear h;go_enter Tryz.func31,Tryz.ntmps31;go_wp2_with (go_at_call 38;refine hP.mono ?_;rintro e w' ⟨rfl,rfl⟩)
 go_ret;exact ⟨rfl,Aeh _ _⟩
theorem J6:∀ (j:Nat) b,(⟨#[32,9]⟩:ByteArray).data.toList[j]?=some b→b.toNat < 128:=ascii_of_all (by decide)
theorem S4:∀ (j:Nat) b,(⟨#[32,9,10,59]⟩:ByteArray).data.toList[j]?=some b→b.toNat < 128:=ascii_of_all (by decide)
theorem Pk:∀ (j:Nat) b,(⟨#[48,49,50,51,52,53,54,55,56,57]⟩:ByteArray).data.toList[j]?=some b→b.toNat < 128:=ascii_of_all (by decide)
theorem IH (s:ByteArray) (a:Int) (w:World) (hs:s.size≤4000000) :
  Calls Tryz.prog 66 #[.string s,.int .i64 a] w fun e w'=>e=.returned (.int .i64 (C6 [32,9] s.data.toList a:Nat))∧Below w.heap.size w w':=by
 have hB:Calls Tryz.prog 31 #[.string s,.int .i64 a,.string ⟨#[32,9]⟩] w fun e w'=>e=.returned (.int .i64 (C6 [32,9] s.data.toList a:Nat))∧Below w.heap.size w w':=by
  by_cases h:0≤a∧a≤(s.size:Int)
  ·obtain ⟨k,rfl⟩:∃ k:Nat,a=k:=⟨a.toNat,by omega⟩;rw [D4 _ _ _ (by rw [←Ad];omega)];exact G3 s ⟨#[32,9]⟩ k w hs (by omega) (by decide) J6
  ·rw [IG _ _ _ (by rw [←Ad];exact h)];exact J5 s ⟨#[32,9]⟩ a w h
 generalize C6 [32,9] s.data.toList a=r at hB ⊢;go_enter Tryz.func66,Tryz.ntmps66;go_wp2_with (go_at_call 31;refine hB.mono ?_;rintro e w1 ⟨rfl,hb⟩)
 go_ret;exact ⟨rfl,hb⟩
theorem Pl (s:ByteArray) (a:Int) (w:World) (hs:s.size≤4000000) :
  Calls Tryz.prog 22 #[.string s,.int .i64 a] w fun e w'=>e=.returned (.int .i64 (C6 [32,9,10,59] s.data.toList a:Nat))∧Below w.heap.size w w':=by
 have hB:Calls Tryz.prog 31 #[.string s,.int .i64 a,.string ⟨#[32,9,10,59]⟩] w fun e w'=>e=.returned (.int .i64 (C6 [32,9,10,59] s.data.toList a:Nat))∧Below w.heap.size w w':=by
  by_cases h:0≤a∧a≤(s.size:Int)
  ·obtain ⟨k,rfl⟩:∃ k:Nat,a=k:=⟨a.toNat,by omega⟩;rw [D4 _ _ _ (by rw [←Ad];omega)];exact G3 s ⟨#[32,9,10,59]⟩ k w hs (by omega) (by decide) S4
  ·rw [IG _ _ _ (by rw [←Ad];exact h)];exact J5 s ⟨#[32,9,10,59]⟩ a w h
 generalize C6 [32,9,10,59] s.data.toList a=r at hB ⊢;go_enter Tryz.func22,Tryz.ntmps22;go_wp2_with (go_at_call 31;refine hB.mono ?_;rintro e w1 ⟨rfl,hb⟩)
 go_ret;exact ⟨rfl,hb⟩
abbrev Adt (r:Nat × Nat × Nat):Ending:=.returned (.tuple #[.int .i64 (r.1:Nat),.int .i64 (r.2.1:Nat),.int .i64 (r.2.2:Nat)])
abbrev pcA (r:E1):Ending:=.returned (.tuple #[.string (txt r.1),.int .i64 (r.2.1:Nat),.int .i64 (r.2.2:Nat)])
theorem CT {t:ByteArray} {n e:Int} {r:E1} (h1:t=txt r.1) (h2:n=(r.2.1:Nat)) (h3:e=(r.2.2:Nat)):Ending.returned (.tuple #[.string t,.int .i64 n,.int .i64 e])=pcA r:=by rw [h1,h2,h3]
theorem G4 (s:ByteArray) (k:Nat) (w:World) (hs:s.size≤4000000) (hk:k≤s.size) :
  Calls Tryz.prog 83 #[.string s,.int .i64 k] w fun e w'=>e=Adt (Bx s.data.toList k)∧Below w.heap.size w w':=by
 have hP:=EL s k w hk;have hB:=G3 s ⟨#[48,49,50,51,52,53,54,55,56,57]⟩ k w hs hk (by decide) Pk;rw [show (⟨#[48,49,50,51,52,53,54,55,56,57]⟩:ByteArray).data.toList=A4 from rfl] at hB;have hle:=GR (fun b=>A4.contains b) s k hk;have hbf:=GQ (fun b=>A4.contains b) (s.data.toList.drop k);obtain ⟨m,hm⟩:∃ m,EI A4 (s.data.toList.drop k)=m:=⟨_,rfl⟩;have hm':AF (fun b=>A4.contains b) (s.data.toList.drop k)=m:=hm;rw [hm'] at hle hbf;rw [hm] at hB;have hN:Bx s.data.toList k=if m=0 then (0,k,2) else if 9 < m then (0,k,3) else (EJ ((s.data.toList.drop k).take m),k+m,0):=by unfold Bx;rw [hm]
 obtain ⟨R,hR⟩:∃ R,Bx s.data.toList k=R:=⟨_,rfl⟩;rw [hR] at hN ⊢;have HR:=Ad5 hN;clear hN hm' hR;have HB:=Ad5 hbf;clear hbf;go_enter Tryz.func83,Tryz.ntmps83;by_cases h0:m=0
 ·subst h0;have hE:(((k+0:Nat):Int) == (k:Int))=true:=by simp
  go_wp2_with (first
   | (go_at_call 38;refine hP.mono ?_;rintro e w' ⟨rfl,rfl⟩)
   | (go_at_call 31;refine hB.mono ?_;rintro e w1 ⟨rfl,hb⟩))
  go_ret3
  rw [HR.out];exact ⟨rfl,hb⟩
 ·have hE:(((k+m:Nat):Int) == (k:Int))=false:=beq_eq_false_iff_ne.2 (by omega);have hS:IntKind.i64.wrap (((k+m:Nat):Int) - (k:Int))=(m:Int):=by rw [Aej _ (by omega)];omega
  by_cases h9:9 < m
  ·have h9':(9:Int) < (m:Int):=by omega
   go_wp2_with (first
    | (go_at_call 38;refine hP.mono ?_;rintro e w' ⟨rfl,rfl⟩)
    | (go_at_call 31;refine hB.mono ?_;rintro e w1 ⟨rfl,hb⟩))
   go_ret3
   rw [HR.out,if_neg h0,if_pos h9];exact ⟨rfl,hb⟩
  ·have h9':¬ (9:Int) < (m:Int):=by omega
   have hDl:=Ci s k (k+m);rw [show k+m - k=m by omega] at hDl;have hDs:(s.extract k (k+m)).size=m:=by simp;omega
   obtain ⟨D,hD⟩:∃ D,s.extract k (k+m)=D:=⟨_,rfl⟩;rw [hD] at hDl hDs;go_wp2_with (first
    | (go_at_call 38;refine hP.mono ?_;rintro e w' ⟨rfl,rfl⟩)
    | (go_at_call 31;refine hB.mono ?_;rintro e w1 ⟨rfl,hb⟩))
   go_loopg [8,10] m (fun g n _ wx=>∃ i:Nat,i+g=m∧n=.int .i64 (EJ (D.data.toList.take i):Nat)∧wx=w1.iter D i)
   case atStart=>exact ⟨0,by omega,rfl,rfl⟩
   case round=>
    obtain ⟨i,hig,rfl,rfl⟩:=hrel;cases gk with
    | zero=>
     obtain rfl:i=m:=by omega
     have hnx:=fun ty=>run_next_end (P:=Tryz.prog) w1 D i ty (by omega)
     go_wp2
     go_ret3
     refine ⟨?_,hb.alloc hb.size _⟩;rw [HR.out,if_neg h0,if_neg h9,←hDl,List.take_of_length_le (by rw [←Ad,hDs];exact Aec _)];rfl
    | succ g=>
     have hi:i < D.size:=by omega
     have hx:D.data.toList[i]?=some D[i]:=Lib.data_getElem? D i hi;have hdig:A4.contains D[i]=true:=HB.out i D[i] (by omega) (by rw [hDl,List.getElem?_take_of_lt (by omega)] at hx;exact hx);rw [DH] at hdig;simp only [Bool.and_eq_true,decide_eq_true_eq] at hdig;have hnx:=fun ty=>run_next_ascii (P:=Tryz.prog) w1 D i ty hi (by omega)
     have hlt:EJ (D.data.toList.take i) < 1000000000:=by
      refine Pi _ (fun b hb=>?_) (by rw [List.length_take];omega);obtain ⟨j,hj,he⟩:=List.mem_iff_getElem.1 hb;rw [List.length_take] at hj;have hj2:j < D.data.toList.length:=by omega
      refine HB.out j b (by omega) ?_;have h3:D.data.toList[j]?=some b:=by rw [List.getElem?_eq_getElem hj2,←he,List.getElem_take]
      rw [hDl,List.getElem?_take_of_lt (by omega)] at h3;exact h3
     have Hn:=Ad5 (show EJ (D.data.toList.take (i+1))=EJ (D.data.toList.take i) * 10+(D[i].toNat - 48) by
      rw [List.take_add_one,hx,Option.toList_some,Ph])
     obtain ⟨v,hv⟩:∃ v,EJ (D.data.toList.take i)=v:=⟨_,rfl⟩;rw [hv] at hlt Hn ⊢;clear hx hv;have W1:IntKind.i64.wrap (10 * (v:Int))=10 * (v:Int):=Aej _ (by omega)
     go_wp2
     go_roundg g
     case measure=>omega
     case rel=>
      refine ⟨i+1,by omega,?_,rfl⟩;rw [Hn.out];exact congrArg (Value.int .i64) (by omega)
def Blk (w:World) (a:Nat) (cs:Array Value) (T:TypeId):Prop:=w.heap[a]?=some (.cells cs T)
theorem Blk.lt {w:World} {a:Nat} {cs:Array Value} {T:TypeId} (h:Blk w a cs T):a < w.heap.size:=(Array.getElem?_eq_some_iff.1 h).1
theorem Blk.cell {w:World} {a:Nat} {cs:Array Value} {T:TypeId} (h:Blk w a cs T) (j:Nat):w.cell? ⟨a,j,none⟩=cs[j]?:=by
 unfold Blk at h;simp [World.cell?,h]
theorem Blk.frozen {w:World} {a:Nat} {cs:Array Value} {T:TypeId} (h:Blk w a cs T) (j:Nat):w.frozen? ⟨a,j,none⟩=false:=by
 unfold Blk at h;simp [World.frozen?,h]
theorem Blk.set {w:World} {a:Nat} {cs:Array Value} {T:TypeId} (h:Blk w a cs T) (j:Nat) (v:Value):Blk (w.setCell ⟨a,j,none⟩ v) a (cs.setIfInBounds j v) T:=by
 unfold Blk at h ⊢;simp only [World.setCell,Array.getElem?_modify,if_true,h];rfl
theorem Blk.set_other {w:World} {a:Nat} {cs:Array Value} {T:TypeId} (h:Blk w a cs T) (p:Addr) (hp:p.block≠a) (v:Value):Blk (w.setCell p v) a cs T:=by
 unfold Blk at h ⊢;rw [Aei _ _ _ _ (fun e=>hp e.symm)];exact h
theorem Blk.new (w:World) (cs:Array Value) (T:TypeId) (a:Nat) (ha:a=w.heap.size):Blk (w.alloc (.cells cs T)) a cs T:=by
 subst ha;show (w.heap.push _)[w.heap.size]?=_;rw [Array.getElem?_push_size]
theorem Blk.alloc {w:World} {a:Nat} {cs:Array Value} {T:TypeId} (h:Blk w a cs T) (o:Obj):Blk (w.alloc o) a cs T:=by
 have:=h.lt;unfold Blk at h ⊢;rw [Below.heap_alloc _ _ _ this];exact h
theorem Blk.drew {w:World} {a:Nat} {cs:Array Value} {T:TypeId} (h:Blk w a cs T):Blk w.drew a cs T:=h
theorem Blk.drewN {w:World} {a:Nat} {cs:Array Value} {T:TypeId} (h:Blk w a cs T) (n:Nat):Blk (w.drewN n) a cs T:=h
theorem Blk.below {w w':World} {B a:Nat} {cs:Array Value} {T:TypeId} (h:Blk w a cs T) (hb:Below B w w') (ha:a < B):Blk w' a cs T:=by
 unfold Blk at h ⊢;rw [hb.block a ha];exact h
end
section
open Go
variable {P:Program} (w:World)
theorem IX (base:Nat) (t ty e:TypeId) (i:TypeInfo) (ht:P.underlying t=some (.slice e)) (hi:P.info? e=some i) (size:Nat) (v:Value) (n:Nat) (xs:List Value) (hown:w.ownsRow base e size v n xs) (a:Option Addr) (c:Nat) :
  (Builtin.append_ #[t,t] ty #[v,.slice a 0 c]).run P w=.ok v w:=by
 rcases hown.2 with ⟨rfl,rfl⟩ | ⟨g,cap,cur,rfl,_,_,hn,_⟩
 ·cases a <;> simp [Builtin.append_,run_underlying ht,sizeOf,typeInfo,hi,Builtin.lenOf,Builtin.firstCells,loadCells,loadCellsFrom]
 ·cases a <;> simp [Builtin.append_,run_underlying ht,sizeOf,typeInfo,hi,Builtin.lenOf,Builtin.firstCells,loadCells,loadCellsFrom,hn,storeCells]
theorem Eg (base:Nat) (t ty e:TypeId) (i:TypeInfo) (z:Value) (size bytes:Nat) (ht:P.underlying t=some (.slice e)) (hi:P.info? e=some i) (hz:i.zero=some z)
  (hsize:i.size=size) (hby:i.bytes=bytes) (hzs:z.cells.size=size) (hsz:0 < size)
  (v:Value) (n:Nat) (xs:List Value) (hown:w.ownsRow base e size v n xs)
  (oa:Option Addr) (m c:Nat) (news:List Value) (hl:news.length=m * size) (hnews:0 < m→∃ a,oa=some a∧∀ j u,news[j]?=some u→w.cell? (a.add j)=some u) (h1:∀ u∈news,u.oneCell'=true)
  (h63:n+m≤maxLen) (hbytes:(n+m) * bytes≤140737488355328) (hbase:base≤w.heap.size) :
  ∃ v' w',(Builtin.append_ #[t,t] ty #[v,.slice oa m c]).run P w=.ok v' w'∧w'.ownsRow base e size v' (n+m) (xs++news)∧w.grownBy w' v.ownBlock∧
   (v'.ownBlock=v.ownBlock∨v'.ownBlock=some w.heap.size):=by
 by_cases hm:m=0
 ·subst hm;have hn:news=[]:=List.eq_nil_of_length_eq_zero (by simpa using hl);subst hn;refine ⟨v,w,IX w base t ty e i ht hi size v n xs hown oa c,?_,⟨rfl,rfl,rfl,Aec _,fun _ _ _=>rfl⟩,.inl rfl⟩;rw [List.append_nil];exact hown
 ·obtain ⟨a,rfl,hc⟩:=hnews (by omega);obtain ⟨v',w',h2,h3,h4,_,h5⟩:=run_append_own_at (P:=P) w base t ty e i z size bytes ht hi hz hsize hby hzs hsz v n xs hown a m c news hl hc h1 h63 hbytes hbase;exact ⟨v',w',h2,h3,h4,h5⟩
theorem Af {ops:Array Oper} {rest:List Oper} {o:Oper} {a:Act} {Q:Exit→Act→World→Prop} (hgd:o.guard=none) (s x:Operand) (t:TypeId)
  (ho:o.op=.call { callee:=.builtin .append,args:=#[s,x],argTypes:=#[t,t] })
  (base:Nat) (e:TypeId) (i:TypeInfo) (z:Value) (size bytes:Nat) (ht:P.underlying t=some (.slice e)) (hi:P.info? e=some i) (hz:i.zero=some z)
  (hsize:i.size=size) (hby:i.bytes=bytes) (hzs:z.cells.size=size) (hsz:0 < size)
  (v:Value) (n:Nat) (xs:List Value) (hs:a.eval s=v) (hown:w.ownsRow base e size v n xs)
  (oa:Option Addr) (m c:Nat) (news:List Value) (hx:a.eval x=.slice oa m c) (hl:news.length=m * size) (hnews:0 < m→∃ a,oa=some a∧∀ j u,news[j]?=some u→w.cell? (a.add j)=some u) (h1:∀ u∈news,u.oneCell'=true)
  (h63:n+m≤maxLen) (hbytes:(n+m) * bytes≤140737488355328) (hbase:base≤w.heap.size)
  (h:∀ v' w',w'.ownsRow base e size v' (n+m) (xs++news)→w.grownBy w' v.ownBlock→(v'.ownBlock=v.ownBlock∨v'.ownBlock=some w.heap.size)→wpList P ops Q rest (a.put o.dst v') w') :
  wpList P ops Q (o :: rest) a w:=by
 refine wpList_plain hgd fun K hK=>?_
 obtain ⟨v',w',hr,h2,h3,h4⟩:=Eg (P:=P) w base t o.type e i z size bytes ht hi hz hsize hby hzs hsz v n xs hown oa m c news hl hnews h1 h63 hbytes hbase;unfold Oper.wp execOp;simp only [ho,resolve,invoke,builtin,Sem.run_bind,Sem.run_pure,Result.andThen_ok,List.map_toArray,List.map_cons,List.map_nil,hs,hx,hr];exact hK _ _ (h v' w' h2 h3 h4)
end
section
open Go
variable {P:Program}
theorem Bs {ops:Array Oper} {o:Oper} {a:Act} {w:World} {K:Act→World→Prop} {Q:Exit→Act→World→Prop} {E:Prop} (hgd:o.guard=none) (g:Operand) (xs:List Operand) (ts:Array TypeId)
  (ho:o.op=.call { callee:=.value g,args:=xs.toArray,argTypes:=ts }) (f:Nat) (vs:List Value) (hg:a.eval g=.func (.func f) #[] #[]) (hv:xs.map a.eval=vs) (eg:∀ args w,(callFunc f args).run P w=.ok (.enter f args) w)
  {R:Ending→World→Prop} (hC:Calls P f vs.toArray w R) (h:∀ e w',R e w'→∃ v,e=.returned v∧K (a.put o.dst v) w'):if Region.wanted o (yielded ops a.tmps)=true then Oper.wp P o a w K Q else E:=by
 rw [if_pos (by simp [Region.wanted,hgd])];have hE:(execOp a.eval o).run P w=.ok (.enter f vs.toArray) w:=by
  unfold execOp;simp only [ho,resolve,hg,List.map_toArray,hv];simp [go_sem,invoke,eg]
 unfold Oper.wp;rw [hE,Oper.upon_enter];refine hC.mono ?_;intro e w' hr;obtain ⟨v,rfl,hk⟩:=h e w' hr;exact hk
end
section
open Go Go.RowKit
structure Other (B:Nat) (C:Nat→Prop) (W W':World):Prop where
 os:W'.os=W.os
 tape:W'.tape=W.tape
 output:W'.output=W.output
 size:W.heap.size≤W'.heap.size
 block:∀ k,k < W.heap.size→(k < B∨C k)→W'.heap[k]?=W.heap[k]?
structure Rdn (n₀ B:Nat) (C C':Nat→Prop) (W W':World):Prop where
 size:W.heap.size≤W'.heap.size
 block:∀ k,k < W.heap.size→(k < n₀∨(B≤k∧¬ C k))→W'.heap[k]?=W.heap[k]?
 new:∀ k,C' k→C k∨(W.heap.size≤k∧k < W'.heap.size)
theorem Other.refl (B:Nat) (C:Nat→Prop) (W:World):Other B C W W:=⟨rfl,rfl,rfl,Aec _,fun _ _ _=>rfl⟩
theorem Other.trans {B:Nat} {C:Nat→Prop} {X Y Z:World} (h:Other B C X Y) (k:Other B C Y Z):Other B C X Z:=
 ⟨k.os.trans h.os,k.tape.trans h.tape,k.output.trans h.output,Aed h.size k.size,fun i hi hc=>(k.block i (Aef hi h.size) hc).trans (h.block i hi hc)⟩
theorem Other.drew {B:Nat} {C:Nat→Prop} {X Y:World} (h:Other B C X Y):Other B C X Y.drew:=⟨h.os,h.tape,h.output,h.size,h.block⟩
theorem Other.alloc {B:Nat} {C:Nat→Prop} {X Y:World} (h:Other B C X Y) (o:Obj):Other B C X (Y.alloc o):=
 h.trans ⟨rfl,rfl,rfl,by simp,fun k hk _=>Below.heap_alloc _ _ _ hk⟩
theorem Other.setCell {B:Nat} {C:Nat→Prop} {X Y:World} (h:Other B C X Y) {p:Addr} (hp:B≤p.block) (hc:¬ C p.block) (u:Value):Other B C X (Y.setCell p u):=
 h.trans ⟨rfl,rfl,rfl,by simp [World.setCell],fun k _ hk=>Aei _ _ _ _ (fun e=>by subst e;rcases hk with hk | hk <;> first | omega | exact hc hk)⟩
theorem Other.grown {B:Nat} {C:Nat→Prop} {X Y Z:World} {row:Option Nat} (h:Other B C X Y) (hg:Y.grownBy Z row) (hr:∀ k,row=some k→B≤k∧¬ C k):Other B C X Z:=
 h.trans ⟨hg.os,hg.tape,hg.output,hg.size,fun k hk hc=>hg.block k hk (fun e=>by have:=hr k e.symm;rcases hc with hc | hc <;> first | omega | exact this.2 hc)⟩
theorem Other.mono {B B':Nat} {C:Nat→Prop} {X Y:World} (h:Other B C X Y) (hB:B'≤B):Other B' C X Y:=
 ⟨h.os,h.tape,h.output,h.size,fun k hk hc=>h.block k hk (hc.elim (fun h=>.inl (Aef h hB)) .inr)⟩
theorem Other.none {B:Nat} {C:Nat→Prop} {X Y:World} (h:Other B C X Y):Other B (fun _=>False) X Y:=
 ⟨h.os,h.tape,h.output,h.size,fun k hk hc=>h.block k hk (.inl (hc.elim id False.elim))⟩
theorem Other.below {B:Nat} {C:Nat→Prop} {X Y:World} (h:Other B C X Y) (hB:B≤X.heap.size):Below B X Y:=
 ⟨h.os,h.tape,h.output,h.size,fun k hk=>h.block k (by omega) (.inl hk)⟩
theorem Other.of_below {B:Nat} {C:Nat→Prop} {X Y:World} (h:Below X.heap.size X Y):Other B C X Y:=
 ⟨h.os,h.tape,h.output,h.size,fun k hk _=>h.block k hk⟩
theorem Other.putObj {B:Nat} {C:Nat→Prop} (W:World) {k:Nat} (hk:B≤k) (hc:¬ C k) (o:Obj):Other B C W (W.putObj k o):=
 ⟨rfl,rfl,rfl,by simp,fun i _ hi=>World.putObj_heap_other (fun e=>by subst e;rcases hi with h | h <;> first | omega | exact hc h)⟩
def ZY {α:Type} (P:Program) (g:Nat) (lb:Array Value) (n₀:Nat) (Ok:List α→α→Array Value→(Nat→Prop)→Nat→World→Prop) (All:List α→Prop) (w:World):Prop:=
 ∀ (l m:Nat) (J:List α→(Nat→Prop)→World→Prop) (Jx:World→Prop) (W:World),Below w.heap.size w W→
  (∀ pre C X Y,J pre C X→Other W.heap.size C X Y→J pre C Y)→
  (∀ X Y,Jx X→Other W.heap.size (fun _=>False) X Y→Jx Y)→
  (∀ pre x args C X,J pre C X→Ok pre x args C W.heap.size X→YieldAt Fence.wide m P l args X fun e Y=>
   (e=.returned (.bool true)∧∃ C',J (pre++[x]) C' Y∧Rdn n₀ W.heap.size C C' X Y)∨(e=.returned (.bool false)∧Jx Y∧Rdn n₀ W.heap.size C C X Y))→
  J [] (fun _=>False) W→
  Calls P g (#[.func (.yield l) #[] #[]]++lb) W fun e Y=>(∃ v,e=.returned v)∧((∃ xs C,All xs∧J xs C Y)∨Jx Y)
def Aau {α:Type} (n₀ B:Nat) (C:Nat→Prop) (I:List α→(Nat→Prop)→World→Prop) (Ix:Code→World→Prop) (xs:List α) (W:World):Exit→Act→World→Prop
 | .normal,_,W'=>∃ C',Rdn n₀ B C C' W W'∧I xs C' W'
 | .ret,_,W'=>Rdn n₀ B C C W W'∧Ix .ret W'
 | .exit id,_,W'=>Rdn n₀ B C C W W'∧Ix (.exit id) W'
 | .goto t,_,W'=>Rdn n₀ B C C W W'∧Ix (.goto t) W'
 | .panic _,_,_=>False
 | .outgrown,_,_=>False
variable {P:Program} {n:Nat}
theorem F6 {α:Type} {g:Operand} {ps:Array Tmp} {assign body:Code} {Q:Exit→Act→World→Prop} {a:Act} {w w0:World} {gf n₀:Nat} {lb:Array Value}
  {Ok:List α→α→Array Value→(Nat→Prop)→Nat→World→Prop} {All:List α→Prop}
  (hg:a.eval g=.func (.func gf) #[] lb) (eg:∀ args w,(callFunc gf args).run P w=.ok (.enter gf args) w)
  (hseq:ZY P gf lb n₀ Ok All w0) (hb0:Below w0.heap.size w0 w) (hn₀:n₀≤w.heap.size)
  (hps:∀ pre x args C b W,Ok pre x args C b W→args.size=ps.size)
  (hOk:∀ pre x args C b W k o,Ok pre x args C b W→n₀≤k→k < b→Ok pre x args C b (W.putObj k o))
  (I:List α→(Nat→Prop)→World→Prop) (Ix:Code→World→Prop)
  (hI:∀ pre C X Y,I pre C X→Other w.heap.size C X Y→I pre C Y)
  (hIx:∀ c X Y,Ix c X→Other w.heap.size (fun _=>False) X Y→Ix c Y)
  (h0:I [] (fun _=>False) w)
  (hround:∀ (l:Nat) (pre:List α) (x:α) (args:Array Value) (C:Nat→Prop) (W:World),I pre C W→Ok pre x args C (w.heap.size+2) W→
   (∀ k,C k→w.heap.size+2≤k)→w.heap.size+2≤W.heap.size→
   assign.wpIn (Fence.wide.inRound l) n P (Exit.then (fun a₁ W₁=>W₁=W∧∀ W,I pre C W→Ok pre x args C (w.heap.size+2) W→w.heap.size+2≤W.heap.size→body.wpIn (Fence.wide.inRound l) n P (Aau n₀ w.heap.size C I Ix (pre++[x]) W) a₁ W) (fun _ _ _=>False))
    { tmps:=(ps.zip args).foldl (fun t (p,v)=>t.setIfInBounds p v) a.tmps,defers:=[] } W)
  (hdone:∀ (xs:List α) (C:Nat→Prop) (W:World),All xs→I xs C W→W.heap[w.heap.size]?=some (.deferred (some []))→Q .normal { a with defers:={ target:=.collected w.heap.size,args:=#[] } :: a.defers } W)
  (hstop:∀ (c:Code) (W:World),Ix c W→W.heap[w.heap.size]?=some (.deferred (some []))→c.wpIn Fence.wide n P Q { a with defers:={ target:=.collected w.heap.size,args:=#[] } :: a.defers } W) :
  (Code.rangeFunc g ps assign body).wpIn Fence.wide n P Q a w:=by
 refine wpIn_rangeFunc fun fn hfn=>?_
 generalize hD:w.heap.size=D at *
 -- the record, in its states
 obtain ⟨rec,hrec⟩:∃ rec:LoopState→Option Code→Loop,rec=fun st pe=>{ state:=st,pending:=pe,fn,tmps:=a.tmps,params:=ps,assign,body,defers:=D }:=⟨_,rfl⟩
 obtain ⟨V,hV⟩:∃ V,(w.alloc (.deferred (some []))).alloc (.loop (rec .ready none))=V:=⟨_,rfl⟩;have hVs:V.heap.size=D+2:=by rw [←hV];simp [hD]
 have hVl:V.heap[D+1]?=some (.loop (rec .ready none)):=by
  have h:=World.alloc_heap_new (w.alloc (.deferred (some []))) (.loop (rec .ready none));rw [World.size_alloc,hD,hV] at h;exact h
 have hVd:V.heap[D]?=some (.deferred (some [])):=by
  have h:=World.alloc_heap_new w (.deferred (some []));rw [hD] at h;rw [←hV,Below.heap_alloc _ _ _ (by simp [hD])];exact h
 have hVb:Below w.heap.size w V:=by
  rw [←hV];exact ((Aeh _ w).alloc (Aec _) _).alloc (by simp) _
 have hVo:Other D (fun _=>False) w V:=Other.of_below hVb;refine ⟨D+1,[{ target:=.collected D,args:=#[] }],V,{ target:=.fn (.func gf) lb,args:=#[.func (.yield (D+1)) #[] #[]] },V,gf,#[.func (.yield (D+1)) #[] #[]]++lb,V,?_,?_,fun _ _=>trivial,?_,fun h=>by simp [Fence.wide] at h,?_⟩
 ·have h:=run_enterLoop_outer (P:=P) (w:=w) fn a.tmps ps assign body;rw [hD] at h;rw [←hV,hrec];exact h
 ·simp only [resolve,hg];simp [go_sem]
 ·simp [invoke,go_sem,eg]
 refine callsIn_wide.2 ((hseq (D+1) n
  (fun pre C W=>I pre C W∧(∀ k,C k→D+2≤k)∧D+2≤W.heap.size∧W.heap[D+1]?=some (.loop (rec .ready none))∧W.heap[D]?=some (.deferred (some [])))
  (fun W=>∃ c,Ix c W∧D+2≤W.heap.size∧W.heap[D+1]?=some (.loop (rec .done (some c)))∧W.heap[D]?=some (.deferred (some [])))
  V (hb0.trans (hVb.mono hb0.size)) ?_ ?_ ?_ ⟨hI _ _ _ _ h0 hVo,fun k h=>h.elim,by omega,hVl,hVd⟩).mono ?_)
 ·rintro pre C X Y ⟨h1,h2,h3,h4,h5⟩ ho;exact ⟨hI _ _ _ _ h1 (ho.mono (by omega)),h2,Aed h3 ho.size,(ho.block _ (by omega) (.inl (by omega))).trans h4,(ho.block _ (by omega) (.inl (by omega))).trans h5⟩
 ·rintro X Y ⟨c,h1,h3,h4,h5⟩ ho;exact ⟨c,hIx _ _ _ h1 (ho.mono (by omega)),Aed h3 ho.size,(ho.block _ (by omega) (.inl (by omega))).trans h4,(ho.block _ (by omega) (.inl (by omega))).trans h5⟩
 ·-- one round
  rintro pre x args C X ⟨h1,h2,h3,h4,h5⟩ hok;rw [hVs] at hok ⊢;have hy:=run_yield (P:=P) (args:=args) h4 (by rw [hrec];exact hps _ _ _ _ _ _ hok);rw [hrec] at hy;refine ⟨fn,_,assign,body,hy,roundIn_of_wpIn hfn (wpIn_mono (hround (D+1) pre x args C X h1 hok h2 h3) ?_)⟩;intro e a₁ W₁ hq;cases e with
  | normal=>
   obtain ⟨rfl,hb⟩:=hq;have hc1:¬ C (D+1):=fun h=>by have:=h2 _ h;omega
   have hc0:¬ C D:=fun h=>by have:=h2 _ h;omega
   refine ⟨_,run_beginRound h4 (by rw [hrec]),?_⟩;have hbusy:(W₁.putObj (D+1) (.loop { rec .ready none with state:=.busy })).heap[D+1]?=some (.loop { rec .ready none with state:=.busy }):=World.putObj_heap_same (by omega);have hdef:(W₁.putObj (D+1) (.loop { rec .ready none with state:=.busy })).heap[D]?=some (.deferred (some [])):=(World.putObj_heap_other (by omega)).trans h5;refine wpIn_mono (hb (W₁.putObj (D+1) (.loop { rec .ready none with state:=.busy })) (hI _ _ _ _ h1 (Other.putObj _ (by omega) hc1 _)) (hOk _ _ _ _ _ _ _ _ hok (by omega) (by omega)) (by simpa using h3)) ?_;have fin:∀ (jump:Option Code) (C':Nat→Prop) (W3:World),Rdn n₀ D C C' (W₁.putObj (D+1) (.loop { rec .ready none with state:=.busy })) W3→
     ∃ W4,W4=W3.putObj (D+1) (.loop (rec (if jump.isNone then .ready else .done) jump))∧(Instr.endRound (D+1) jump).run P W3=.ok (.bool jump.isNone) W4∧
     (∀ C,(¬ C (D+1))→Other D C W3 W4)∧W4.heap[D+1]?=some (.loop (rec (if jump.isNone then .ready else .done) jump))∧W4.heap[D]?=some (.deferred (some []))∧D+2≤W4.heap.size∧Rdn n₀ (D+2) C C' W₁ W4:=by
    intro jump C' W3 hr;have hl3:W3.heap[D+1]?=some (.loop { rec .ready none with state:=.busy }):=(hr.block _ (by simp;omega) (.inr ⟨by omega,hc1⟩)).trans hbusy;have hd3:W3.heap[D]?=some (.deferred (some [])):=(hr.block _ (by simp;omega) (.inr ⟨by omega,hc0⟩)).trans hdef;have hs:=hr.size;rw [World.putObj_size] at hs;have hrun:=run_endRound (P:=P) jump hl3;rw [hrec] at hrun ⊢;refine ⟨_,rfl,hrun,fun C hC=>Other.putObj _ (by omega) hC _,World.putObj_heap_same (by omega),(World.putObj_heap_other (by omega)).trans hd3,by simp;omega,⟨by simp;omega,fun k hk hkc=>?_,fun k hk=>(hr.new k hk).elim .inl (fun h=>.inr (by simpa using h))⟩⟩;have hne:k≠D+1:=by
     rcases hkc with h | h <;> omega
    rw [World.putObj_heap_other hne,hr.block k (by simpa using hk) (hkc.elim .inl (fun h=>.inr ⟨by omega,h.2⟩)),World.putObj_heap_other hne]
   rintro e a3 W3 hp;cases e with
   | normal=>
    obtain ⟨C',hr,hi⟩:=hp;obtain ⟨W4,_,hrun,ho,hl,hd,hs,hr4⟩:=fin none C' W3 hr;have hC':∀ k,C' k→D+2≤k:=fun k hk=>(hr.new k hk).elim (h2 k) (fun h=>by have:=h.1;simp at this;omega)
    exact ⟨_,_,hrun,.inl ⟨rfl,C',⟨hI _ _ _ _ hi (ho C' (fun h=>by have:=hC' _ h;omega)),hC',hs,hl,hd⟩,hr4⟩⟩
   | ret=>
    obtain ⟨hr,hi⟩:=hp;obtain ⟨W4,_,hrun,ho,hl,hd,hs,hr4⟩:=fin (some .ret) C W3 hr;exact ⟨_,_,hrun,.inr ⟨rfl,⟨.ret,hIx _ _ _ hi (ho _ (fun h=>h)),hs,hl,hd⟩,hr4⟩⟩
   | exit id=>
    obtain ⟨hr,hi⟩:=hp;obtain ⟨W4,_,hrun,ho,hl,hd,hs,hr4⟩:=fin (some (.exit id)) C W3 hr;exact ⟨_,_,hrun,.inr ⟨rfl,⟨.exit id,hIx _ _ _ hi (ho _ (fun h=>h)),hs,hl,hd⟩,hr4⟩⟩
   | goto t=>
    obtain ⟨hr,hi⟩:=hp;obtain ⟨W4,_,hrun,ho,hl,hd,hs,hr4⟩:=fin (some (.goto t)) C W3 hr;exact ⟨_,_,hrun,.inr ⟨rfl,⟨.goto t,hIx _ _ _ hi (ho _ (fun h=>h)),hs,hl,hd⟩,hr4⟩⟩
   | panic ch=>exact hp.elim
   | outgrown=>exact hp.elim
  | exit id=>exact hq.elim
  | goto t=>exact hq.elim
  | ret=>exact hq.elim
  | panic ch=>exact hq.elim
  | outgrown=>exact hq.elim
 ·-- behind the iterator
  rintro e Y ⟨⟨v,rfl⟩,⟨xs,C,hA,h1,h2,h3,h4,h5⟩ | ⟨c,h1,h3,h4,h5⟩⟩
  ·have hrun:=run_endLoop (P:=P) h4 (by rw [hrec];simp);rw [hrec] at hrun;exact ⟨none,_,hrun,hdone xs C _ hA (hI _ _ _ _ h1 (Other.putObj _ (by omega) (fun h=>by have:=h2 _ h;omega) _)) ((World.putObj_heap_other (by omega)).trans h5)⟩
  ·have hrun:=run_endLoop (P:=P) h4 (by rw [hrec];simp);rw [hrec] at hrun;exact ⟨some c,_,hrun,hstop c _ (hIx _ _ _ h1 (Other.putObj _ (by omega) (fun h=>h) _)) ((World.putObj_heap_other (by omega)).trans h5)⟩
end
section
def rep (c:Nat):Nat→Nat
 | 0=>0
 | k+1=>c+256 * rep c k
def f1 (b:Nat):Nat:=(b / 2 &&& 85)+(b &&& 85)
def f2 (b:Nat):Nat:=(b / 4 &&& 51)+(b &&& 51)
def f3 (b:Nat):Nat:=b / 16+b % 16
end
section
open Go.RowKit
theorem F7 {a b:Bool} (h:a=b):Ending.returned (.bool a)=.returned (.bool b):=by rw [h]
theorem GU {k:IntKind} {a b:Int} (h:a=b):Ending.returned (.int k a)=.returned (.int k b):=by rw [h]
theorem Aav:IntKind.u64.max=18446744073709551615:=by decide
theorem Rw (s:OSet) (x:Int) (h0:0≤x) (h1:x≤255) (w:World) :
  Calls Tryz.prog 162 #[.agg #[.int .u64 (ow s 0),.int .u64 (ow s 1),.int .u64 (ow s 2),.int .u64 (ow s 3)],.int .u8 x] w fun e w'=>e=.returned (.bool (ohas s x.toNat))∧Below w.heap.size w w':=by
 have hq:x / 64=0∨x / 64=1∨x / 64=2∨x / 64=3:=by omega
 rcases hq with hq | hq | hq | hq
 all_goals
  have H:=Yc s _ x h0 h1 hq;have K:=Ad5 H;clear H;go_enter Tryz.func162,Tryz.ntmps162
  go_wp2
  go_ret;exact ⟨F7 K.out,(Aeh _ _).alloc (Aec _) _⟩
theorem Gb (s:OSet) (w:World) :
  Calls Tryz.prog 137 #[.agg #[.int .u64 (ow s 0),.int .u64 (ow s 1),.int .u64 (ow s 2),.int .u64 (ow s 3)]] w fun e w'=>e=.returned (.agg #[.int .u64 (ow (~~~s) 0),.int .u64 (ow (~~~s) 1),.int .u64 (ow (~~~s) 2),.int .u64 (ow (~~~s) 3)])∧Below w.heap.size w w':=by
 have k0:=Ez s 0 (by decide);have k1:=Ez s 1 (by decide);have k2:=Ez s 2 (by decide);have k3:=Ez s 3 (by decide);rw [←Aav] at k0 k1 k2 k3;go_enter Tryz.func137,Tryz.ntmps137
 go_wp2
 refine wp_loop_rounds 5 ?_
 iterate 5 (rw [rounds_succ];go_wp2)
 refine bodyPost_ret (v:=.agg #[.int .u64 (ow (~~~s) 0),.int .u64 (ow (~~~s) 1),.int .u64 (ow (~~~s) 2),.int .u64 (ow (~~~s) 3)]) (by simp [results,Tryz.results137,go_sem]) rfl ⟨rfl,?_⟩;exact ((Aeh _ _).alloc (Aec _) _).alloc (by simp) _
theorem Ym (s t:OSet) (w:World) :
  Calls Tryz.prog 182 #[.agg #[.int .u64 (ow s 0),.int .u64 (ow s 1),.int .u64 (ow s 2),.int .u64 (ow s 3)],.agg #[.int .u64 (ow t 0),.int .u64 (ow t 1),.int .u64 (ow t 2),.int .u64 (ow t 3)]] w fun e w'=>e=.returned (.agg #[.int .u64 (ow (s &&& t) 0),.int .u64 (ow (s &&& t) 1),.int .u64 (ow (s &&& t) 2),.int .u64 (ow (s &&& t) 3)])∧Below w.heap.size w w':=by
 have k0:=Ey s t 0;have k1:=Ey s t 1;have k2:=Ey s t 2;have k3:=Ey s t 3;go_enter Tryz.func182,Tryz.ntmps182
 go_wp2
 refine wp_loop_rounds 5 ?_
 iterate 4 (rw [rounds_succ];go_wp2;go_region;go_wp2)
 rw [rounds_succ]
 go_wp2
 refine bodyPost_ret (v:=.agg #[.int .u64 (ow (s &&& t) 0),.int .u64 (ow (s &&& t) 1),.int .u64 (ow (s &&& t) 2),.int .u64 (ow (s &&& t) 3)]) (by simp [results,Tryz.results182,go_sem]) rfl ⟨rfl,?_⟩
 repeat (first | exact Aeh _ _ | refine Below.drew ?_ | refine Below.alloc ?_ (by simp <;> omega) _)
theorem DA (s t:OSet) (w:World) :
  Calls Tryz.prog 161 #[.agg #[.int .u64 (ow s 0),.int .u64 (ow s 1),.int .u64 (ow s 2),.int .u64 (ow s 3)],.agg #[.int .u64 (ow t 0),.int .u64 (ow t 1),.int .u64 (ow t 2),.int .u64 (ow t 3)]] w fun e w'=>e=.returned (.agg #[.int .u64 (ow (s ||| t) 0),.int .u64 (ow (s ||| t) 1),.int .u64 (ow (s ||| t) 2),.int .u64 (ow (s ||| t) 3)])∧Below w.heap.size w w':=by
 have k0:=EZ s t 0;have k1:=EZ s t 1;have k2:=EZ s t 2;have k3:=EZ s t 3;go_enter Tryz.func161,Tryz.ntmps161
 go_wp2
 refine wp_loop_rounds 5 ?_
 iterate 4 (rw [rounds_succ];go_wp2;go_region;go_wp2)
 rw [rounds_succ]
 go_wp2
 refine bodyPost_ret (v:=.agg #[.int .u64 (ow (s ||| t) 0),.int .u64 (ow (s ||| t) 1),.int .u64 (ow (s ||| t) 2),.int .u64 (ow (s ||| t) 3)]) (by simp [results,Tryz.results161,go_sem]) rfl ⟨rfl,?_⟩
 repeat (first | exact Aeh _ _ | refine Below.drew ?_ | refine Below.alloc ?_ (by simp <;> omega) _)
theorem KJ (w:World) (n:Nat) (a:Addr) (u:Value):(w.drewN n).setCell a u=(w.setCell a u).drewN n:=rfl
theorem UH (x:Int) (_h0:0≤x):IntKind.u64.wrap (2 ^ (x % 64).toNat)=2 ^ (x % 64).toNat:=by
 have h1:(x % 64).toNat < 64:=by omega
 have h2:(2:Int) ^ (x % 64).toNat < 2 ^ 64:=Int.pow_lt_pow_of_lt (by decide) h1;have h3:(0:Int)≤2 ^ (x % 64).toNat:=Int.le_of_lt (Int.pow_pos (by decide));rw [IntKind.wrap_u64];exact Int.emod_eq_of_lt h3 h2
theorem KK (s:OSet) (i:Nat) (x:Int) (h0:0≤x) (h1:x≤255) (hi:x / 64=i):bits .or .u64 (ow s i) (IntKind.u64.wrap (2 ^ (x % 64).toNat))=ow (s ||| Gz x.toNat) i:=by
 rw [UH x h0];exact Nq s i x h0 h1 hi
theorem Rx (s:OSet) (x:Int) (h0:0≤x) (h1:x≤255) (n p:Nat) (v:World) (hp:p=v.heap.size) :
  Calls Tryz.prog 152 #[.pointer (some ⟨p,0,none⟩),.int .u8 x] ((v.alloc (.cells #[.int .u64 (ow s 0),.int .u64 (ow s 1),.int .u64 (ow s 2),.int .u64 (ow s 3)] 109)).drewN n) fun e w'=>e=.returned (.tuple #[])∧
   (v.alloc (.cells #[.int .u64 (ow (s ||| Gz x.toNat) 0),.int .u64 (ow (s ||| Gz x.toNat) 1),.int .u64 (ow (s ||| Gz x.toNat) 2),.int .u64 (ow (s ||| Gz x.toNat) 3)] 109)).drewN (n+1)=w':=by
 subst hp;have hq:x / 64=0∨x / 64=1∨x / 64=2∨x / 64=3:=by omega
 rcases hq with hq | hq | hq | hq
 all_goals
  have k:=KK s _ x h0 h1 hq;have p0:=Ad5 (GM s 0 x h0 h1);have p1:=Ad5 (GM s 1 x h0 h1);have p2:=Ad5 (GM s 2 x h0 h1);have p3:=Ad5 (GM s 3 x h0 h1);go_enter Tryz.func152,Tryz.ntmps152
  go_wp2
  go_region
  go_wp2
  go_end0;refine ⟨rfl,?_⟩;rw [KJ,World.setCell_alloc_at _ _ _ _ _ rfl];first | rw [p0.out (by omega)] | skip
  first | rw [p1.out (by omega)] | skip
  first | rw [p2.out (by omega)] | skip
  first | rw [p3.out (by omega)] | skip
  rfl
theorem Pm (zs:List Int) (b o cap:Nat) (w:World) (hb:b < w.heap.size) (hm:zs.length≤maxLen)
  (hc:∀ i,i < zs.length→w.cell? ⟨b,o+i,none⟩=some (.int .u8 (zs.getD i 0))) (hr:∀ i,0≤zs.getD i 0∧zs.getD i 0≤255) :
  Calls Tryz.prog 138 #[.slice (some ⟨b,o,none⟩) zs.length cap] w fun e w'=>e=.returned (.agg #[.int .u64 (ow (D2 zs) 0),.int .u64 (ow (D2 zs) 1),.int .u64 (ow (D2 zs) 2),.int .u64 (ow (D2 zs) 3)])∧Below w.heap.size w w':=by
 unfold maxLen at hm;have Hc:=Ad5 hc;clear hc;have Hr:=Ad5 hr;clear hr;go_enter Tryz.func138,Tryz.ntmps138
 go_wp2
 go_loopw [8] (fun i wr=>∃ k n:Nat,k≤zs.length∧i=.int .i64 k∧wr=((w.alloc (.cells #[.int .u64 0,.int .u64 0,.int .u64 0,.int .u64 0] 109)).alloc (.cells #[.int .u64 (ow (D2 (zs.take k)) 0),.int .u64 (ow (D2 (zs.take k)) 1),.int .u64 (ow (D2 (zs.take k)) 2),.int .u64 (ow (D2 (zs.take k)) 3)] 109)).drewN n) (fun i _=>zs.length - (intOf i).toNat)
 case atStart=>exact ⟨0,0,Nat.zero_le _,rfl,by rw [World.drewN_zero,List.take_zero,Ye,Al,Al,Al,Al]⟩
 case round=>
  obtain ⟨k,n,hk,rfl,rfl⟩:=hrel;by_cases hlt:k < zs.length
  ·have hcell:=Hc.out k hlt;have hrk:=Hr.out k;have hsn0:=UC zs k hlt;generalize zs.getD k 0=z at hcell hrk hsn0;have hsn:=Ad5 hsn0;clear hsn0;go_wp2_with (go_at_call 152;refine (Rx _ _ hrk.1 hrk.2 _ _ _ (by simp)).mono ?_;rintro e w' ⟨rfl,rfl⟩)
   go_roundw
   case rel=>exact ⟨k+1,n+1,by omega,by go_num,by rw [hsn.out]⟩
   case measure=>simp [intOf];omega
  ·go_wp2
   have hkz:=Ad5 (show zs.take k=zs from List.take_of_length_le (by omega));refine bodyPost_ret (v:=.agg #[.int .u64 (ow (D2 (zs.take k)) 0),.int .u64 (ow (D2 (zs.take k)) 1),.int .u64 (ow (D2 (zs.take k)) 2),.int .u64 (ow (D2 (zs.take k)) 3)]) (by simp [results,Tryz.results138,go_sem]) rfl ⟨by rw [hkz.out],?_⟩
   repeat (first | exact Aeh _ _ | refine Below.drew ?_ | refine below_drewN ?_ _ | refine Below.setCell ?_ (by simp <;> omega) _ | refine Below.alloc ?_ (by simp <;> omega) _)
theorem EM (lo hi:Int) (w:World) (h0:0≤lo) (h1:lo≤255) (h2:0≤hi) (h3:hi≤255) :
  Calls Tryz.prog 179 #[.int .u8 lo,.int .u8 hi] w fun e w'=>e=.returned (.agg #[.int .u64 (ow (Ab lo hi) 0),.int .u64 (ow (Ab lo hi) 1),.int .u64 (ow (Ab lo hi) 2),.int .u64 (ow (Ab lo hi) 3)])∧Below w.heap.size w w':=by
 go_enter Tryz.func179,Tryz.ntmps179
 go_wp2
 go_loopw [13] (fun i wr=>∃ k n:Nat,k≤(hi - lo+1).toNat∧i=.int .i64 k∧wr=((w.alloc (.cells #[.int .u64 0,.int .u64 0,.int .u64 0,.int .u64 0] 109)).alloc (.cells #[.int .u64 (ow (CP lo.toNat k) 0),.int .u64 (ow (CP lo.toNat k) 1),.int .u64 (ow (CP lo.toNat k) 2),.int .u64 (ow (CP lo.toNat k) 3)] 109)).drewN n) (fun i _=>256 - (intOf i).toNat)
 case atStart=>exact ⟨0,0,Nat.zero_le _,rfl,by rw [World.drewN_zero,CP,Al,Al,Al,Al]⟩
 case round=>
  obtain ⟨k,n,hk,rfl,rfl⟩:=hrel;by_cases hlt:(k:Int) < hi - lo+1
  ·go_wp2_with (go_at_call 152;refine (Rx _ _ (by omega) (by omega) _ _ _ (by simp)).mono ?_;rintro e w' ⟨rfl,rfl⟩)
   have hsn:CP lo.toNat (k+1)=CP lo.toNat k ||| Gz (lo+k).toNat:=by
    rw [CP,show lo.toNat+k=(lo+k).toNat by omega]
   go_roundw
   case rel=>exact ⟨k+1,n+1,by omega,by go_num,by rw [hsn]⟩
   case measure=>simp [intOf];omega
  ·have hkz:=Ad5 (show Ab lo hi=CP lo.toNat k from by unfold Ab;rw [show (hi - lo+1).toNat=k by omega])
   go_wp2
   refine bodyPost_ret (v:=.agg #[.int .u64 (ow (CP lo.toNat k) 0),.int .u64 (ow (CP lo.toNat k) 1),.int .u64 (ow (CP lo.toNat k) 2),.int .u64 (ow (CP lo.toNat k) 3)]) (by simp [results,Tryz.results179,go_sem]) rfl ⟨by rw [hkz.out],?_⟩
   repeat (first | exact Aeh _ _ | refine Below.drew ?_ | refine below_drewN ?_ _ | refine Below.setCell ?_ (by simp <;> omega) _ | refine Below.alloc ?_ (by simp <;> omega) _)
def oc (s:OSet):Array Value:=#[.int .u64 (ow s 0),.int .u64 (ow s 1),.int .u64 (ow s 2),.int .u64 (ow s 3)]
theorem Eh {w:World} {a:Nat} {s:OSet} {T:TypeId} (h:Blk w a (oc s) T) :
  w.cell? ⟨a,0,none⟩=some (.int .u64 (ow s 0))∧w.cell? ⟨a,1,none⟩=some (.int .u64 (ow s 1))∧w.cell? ⟨a,2,none⟩=some (.int .u64 (ow s 2))∧w.cell? ⟨a,3,none⟩=some (.int .u64 (ow s 3)):=
 ⟨by rw [h.cell];rfl,by rw [h.cell];rfl,by rw [h.cell];rfl,by rw [h.cell];rfl⟩
theorem J7 {w:World} {a:Nat} {s:OSet} {T:TypeId} (h:Blk w a (oc s) T) (t:OSet) :
  Blk ((((w.setCell ⟨a,0,none⟩ (.int .u64 (ow t 0))).setCell ⟨a,1,none⟩ (.int .u64 (ow t 1))).setCell ⟨a,2,none⟩ (.int .u64 (ow t 2))).setCell ⟨a,3,none⟩ (.int .u64 (ow t 3))) a (oc t) T:=by
 have:=(((h.set 0 (.int .u64 (ow t 0))).set 1 (.int .u64 (ow t 1))).set 2 (.int .u64 (ow t 2))).set 3 (.int .u64 (ow t 3));exact this
theorem Ah {w:World} {a:Nat} {T:TypeId} (h:Blk w a #[.int .u64 0,.int .u64 0,.int .u64 0,.int .u64 0] T) :
  w.cell? ⟨a,0,none⟩=some (.int .u64 0)∧w.cell? ⟨a,1,none⟩=some (.int .u64 0)∧w.cell? ⟨a,2,none⟩=some (.int .u64 0)∧w.cell? ⟨a,3,none⟩=some (.int .u64 0):=
 ⟨by rw [h.cell];rfl,by rw [h.cell];rfl,by rw [h.cell];rfl,by rw [h.cell];rfl⟩
def CU:OSet:=Ab 97 122
def CW:OSet:=Ab 65 90
def BX:OSet:=Ab 48 57
def CX:OSet:=Ab 33 126
def CY:OSet:=CU ||| CW
def CZ:OSet:=CY ||| BX
def Da:OSet:=D2 [32,9]
def Yn:OSet:=BX ||| Ab 65 70 ||| Ab 97 102
def Aaw:OSet:=Da ||| Ab 10 13
def Aax:OSet:=Ab 0 31 ||| D2 [127]
def Aay:OSet:=Ab 32 126
def Aaz:OSet:=CX &&& ~~~CZ
def A5 (l:List UInt8):OSet:=
 bif l == [108,111,119,101,114] then CU else bif l == [117,112,112,101,114] then CW else bif l == [97,108,112,104,97] then CY
 else bif l == [100,105,103,105,116] then BX else bif l == [97,108,110,117,109] then CZ else bif l == [120,100,105,103,105,116] then Yn
 else bif l == [98,108,97,110,107] then Da else bif l == [115,112,97,99,101] then Aaw else bif l == [99,110,116,114,108] then Aax
 else bif l == [112,114,105,110,116] then Aay else bif l == [103,114,97,112,104] then CX else bif l == [112,117,110,99,116] then Aaz else oz
def CH (l:List UInt8):Bool:=
 l == [108,111,119,101,114] || l == [117,112,112,101,114] || l == [97,108,112,104,97] || l == [100,105,103,105,116] || l == [97,108,110,117,109] || l == [120,100,105,103,105,116]
 || l == [98,108,97,110,107] || l == [115,112,97,99,101] || l == [99,110,116,114,108] || l == [112,114,105,110,116] || l == [103,114,97,112,104] || l == [112,117,110,99,116]
theorem CF (x:Int) (h0:0≤x) (h1:x≤255) (W:World) (p:Nat) (hp:p=W.heap.size) :
  Calls Tryz.prog 138 #[.slice (some ⟨p,0,none⟩) 1 1] (W.alloc (.cells #[.int .u8 x] 5)) fun e w'=>e=.returned (.agg #[.int .u64 (ow (D2 [x]) 0),.int .u64 (ow (D2 [x]) 1),.int .u64 (ow (D2 [x]) 2),.int .u64 (ow (D2 [x]) 3)])∧Below W.heap.size W w':=by
 refine (Pm [x] p 0 1 _ (by subst hp;simp) (by simp [maxLen]) (fun i hi=>?_) (fun i=>?_)).mono ?_
 ·rw [(Blk.new W _ _ _ hp).cell]
  match i,hi with
  | 0,_=>rfl
 ·match i with
  | 0=>exact ⟨h0,h1⟩
  | _+1=>simp
 ·rintro e w' ⟨rfl,hb⟩;exact ⟨rfl,((Aeh _ _).alloc (Aec _) _).trans (hb.mono (by simp))⟩
theorem Aa0 (x y:Int) (h0:0≤x) (h1:x≤255) (h2:0≤y) (h3:y≤255) (W:World) (p:Nat) (hp:p=W.heap.size) :
  Calls Tryz.prog 138 #[.slice (some ⟨p,0,none⟩) 2 2] (W.alloc (.cells #[.int .u8 x,.int .u8 y] 5)) fun e w'=>e=.returned (.agg #[.int .u64 (ow (D2 [x,y]) 0),.int .u64 (ow (D2 [x,y]) 1),.int .u64 (ow (D2 [x,y]) 2),.int .u64 (ow (D2 [x,y]) 3)])∧Below W.heap.size W w':=by
 refine (Pm [x,y] p 0 2 _ (by subst hp;simp) (by simp [maxLen]) (fun i hi=>?_) (fun i=>?_)).mono ?_
 ·rw [(Blk.new W _ _ _ hp).cell]
  match i,hi with
  | 0,_=>rfl
  | 1,_=>rfl
 ·match i with
  | 0=>exact ⟨h0,h1⟩
  | 1=>exact ⟨h2,h3⟩
  | _+2=>simp
 ·rintro e w' ⟨rfl,hb⟩;exact ⟨rfl,((Aeh _ _).alloc (Aec _) _).trans (hb.mono (by simp))⟩
theorem Ld (w:World) :
  Calls Tryz.prog 174 #[] w fun e w'=>e=.returned (.agg #[.int .u64 (ow CU 0),.int .u64 (ow CU 1),.int .u64 (ow CU 2),.int .u64 (ow CU 3)])∧Below w.heap.size w w':=by
 have hB:=Blk.new w #[.int .u64 0,.int .u64 0,.int .u64 0,.int .u64 0] 109 _ rfl;have hW:=(Aeh w.heap.size w).alloc (Aec _) (.cells #[.int .u64 0,.int .u64 0,.int .u64 0,.int .u64 0] 109);go_enter Tryz.func174,Tryz.ntmps174;go_wp2_with (first | (go_at_call 179;refine (EM 97 122 _ (by decide) (by decide) (by decide) (by decide)).mono ?_;rintro e w1 ⟨rfl,b1⟩;replace hW:=Below.trans hW (b1.mono hW.size);replace hB:=Blk.below hB b1 (Blk.lt hB);have f0:=hB.frozen 0;have f1:=hB.frozen 1;have f2:=hB.frozen 2;have f3:=hB.frozen 3;obtain ⟨d0,d1,d2,d3⟩:=Ah hB;have hs:=hB.lt))
 refine bodyPost_ret (v:=.agg #[.int .u64 (ow (Ab 97 122) 0),.int .u64 (ow (Ab 97 122) 1),.int .u64 (ow (Ab 97 122) 2),.int .u64 (ow (Ab 97 122) 3)]) (by simp [results,Tryz.results174,go_sem,d0,d1,d2,d3]) rfl ⟨rfl,?_⟩;repeat (first | exact hW | refine Below.setCell ?_ (by simp) _)
theorem Le (w:World) :
  Calls Tryz.prog 175 #[] w fun e w'=>e=.returned (.agg #[.int .u64 (ow CW 0),.int .u64 (ow CW 1),.int .u64 (ow CW 2),.int .u64 (ow CW 3)])∧Below w.heap.size w w':=by
 have hB:=Blk.new w #[.int .u64 0,.int .u64 0,.int .u64 0,.int .u64 0] 109 _ rfl;have hW:=(Aeh w.heap.size w).alloc (Aec _) (.cells #[.int .u64 0,.int .u64 0,.int .u64 0,.int .u64 0] 109);go_enter Tryz.func175,Tryz.ntmps175;go_wp2_with (first | (go_at_call 179;refine (EM 65 90 _ (by decide) (by decide) (by decide) (by decide)).mono ?_;rintro e w1 ⟨rfl,b1⟩;replace hW:=Below.trans hW (b1.mono hW.size);replace hB:=Blk.below hB b1 (Blk.lt hB);have f0:=hB.frozen 0;have f1:=hB.frozen 1;have f2:=hB.frozen 2;have f3:=hB.frozen 3;obtain ⟨d0,d1,d2,d3⟩:=Ah hB;have hs:=hB.lt))
 refine bodyPost_ret (v:=.agg #[.int .u64 (ow (Ab 65 90) 0),.int .u64 (ow (Ab 65 90) 1),.int .u64 (ow (Ab 65 90) 2),.int .u64 (ow (Ab 65 90) 3)]) (by simp [results,Tryz.results175,go_sem,d0,d1,d2,d3]) rfl ⟨rfl,?_⟩;repeat (first | exact hW | refine Below.setCell ?_ (by simp) _)
theorem Lf (w:World) :
  Calls Tryz.prog 177 #[] w fun e w'=>e=.returned (.agg #[.int .u64 (ow BX 0),.int .u64 (ow BX 1),.int .u64 (ow BX 2),.int .u64 (ow BX 3)])∧Below w.heap.size w w':=by
 have hB:=Blk.new w #[.int .u64 0,.int .u64 0,.int .u64 0,.int .u64 0] 109 _ rfl;have hW:=(Aeh w.heap.size w).alloc (Aec _) (.cells #[.int .u64 0,.int .u64 0,.int .u64 0,.int .u64 0] 109);go_enter Tryz.func177,Tryz.ntmps177;go_wp2_with (first | (go_at_call 179;refine (EM 48 57 _ (by decide) (by decide) (by decide) (by decide)).mono ?_;rintro e w1 ⟨rfl,b1⟩;replace hW:=Below.trans hW (b1.mono hW.size);replace hB:=Blk.below hB b1 (Blk.lt hB);have f0:=hB.frozen 0;have f1:=hB.frozen 1;have f2:=hB.frozen 2;have f3:=hB.frozen 3;obtain ⟨d0,d1,d2,d3⟩:=Ah hB;have hs:=hB.lt))
 refine bodyPost_ret (v:=.agg #[.int .u64 (ow (Ab 48 57) 0),.int .u64 (ow (Ab 48 57) 1),.int .u64 (ow (Ab 48 57) 2),.int .u64 (ow (Ab 48 57) 3)]) (by simp [results,Tryz.results177,go_sem,d0,d1,d2,d3]) rfl ⟨rfl,?_⟩;repeat (first | exact hW | refine Below.setCell ?_ (by simp) _)
theorem S7 (w:World) :
  Calls Tryz.prog 181 #[] w fun e w'=>e=.returned (.agg #[.int .u64 (ow CX 0),.int .u64 (ow CX 1),.int .u64 (ow CX 2),.int .u64 (ow CX 3)])∧Below w.heap.size w w':=by
 have hB:=Blk.new w #[.int .u64 0,.int .u64 0,.int .u64 0,.int .u64 0] 109 _ rfl;have hW:=(Aeh w.heap.size w).alloc (Aec _) (.cells #[.int .u64 0,.int .u64 0,.int .u64 0,.int .u64 0] 109);go_enter Tryz.func181,Tryz.ntmps181;go_wp2_with (first | (go_at_call 179;refine (EM 33 126 _ (by decide) (by decide) (by decide) (by decide)).mono ?_;rintro e w1 ⟨rfl,b1⟩;replace hW:=Below.trans hW (b1.mono hW.size);replace hB:=Blk.below hB b1 (Blk.lt hB);have f0:=hB.frozen 0;have f1:=hB.frozen 1;have f2:=hB.frozen 2;have f3:=hB.frozen 3;obtain ⟨d0,d1,d2,d3⟩:=Ah hB;have hs:=hB.lt))
 refine bodyPost_ret (v:=.agg #[.int .u64 (ow (Ab 33 126) 0),.int .u64 (ow (Ab 33 126) 1),.int .u64 (ow (Ab 33 126) 2),.int .u64 (ow (Ab 33 126) 3)]) (by simp [results,Tryz.results181,go_sem,d0,d1,d2,d3]) rfl ⟨rfl,?_⟩;repeat (first | exact hW | refine Below.setCell ?_ (by simp) _)
theorem SA (w:World) :
  Calls Tryz.prog 180 #[] w fun e w'=>e=.returned (.agg #[.int .u64 (ow Da 0),.int .u64 (ow Da 1),.int .u64 (ow Da 2),.int .u64 (ow Da 3)])∧Below w.heap.size w w':=by
 have hB:=Blk.new w #[.int .u64 0,.int .u64 0,.int .u64 0,.int .u64 0] 109 _ rfl;have hW:=(Aeh w.heap.size w).alloc (Aec _) (.cells #[.int .u64 0,.int .u64 0,.int .u64 0,.int .u64 0] 109);go_enter Tryz.func180,Tryz.ntmps180;go_wp2_with (first | (go_at_call 138;refine (Aa0 32 9 (by decide) (by decide) (by decide) (by decide) _ _ (by simp)).mono ?_;rintro e w1 ⟨rfl,b1⟩;replace hW:=Below.trans hW (b1.mono hW.size);replace hB:=Blk.below hB b1 (Blk.lt hB);have f0:=hB.frozen 0;have f1:=hB.frozen 1;have f2:=hB.frozen 2;have f3:=hB.frozen 3;obtain ⟨d0,d1,d2,d3⟩:=Ah hB;have hs:=hB.lt))
 refine bodyPost_ret (v:=.agg #[.int .u64 (ow (D2 [32,9]) 0),.int .u64 (ow (D2 [32,9]) 1),.int .u64 (ow (D2 [32,9]) 2),.int .u64 (ow (D2 [32,9]) 3)]) (by simp [results,Tryz.results180,go_sem,d0,d1,d2,d3]) rfl ⟨rfl,?_⟩;repeat (first | exact hW | refine Below.setCell ?_ (by simp) _)
theorem Lg (w:World) :
  Calls Tryz.prog 176 #[] w fun e w'=>e=.returned (.agg #[.int .u64 (ow CY 0),.int .u64 (ow CY 1),.int .u64 (ow CY 2),.int .u64 (ow CY 3)])∧Below w.heap.size w w':=by
 have hB:=Blk.new w #[.int .u64 0,.int .u64 0,.int .u64 0,.int .u64 0] 109 _ rfl;have hW:=(Aeh w.heap.size w).alloc (Aec _) (.cells #[.int .u64 0,.int .u64 0,.int .u64 0,.int .u64 0] 109);go_enter Tryz.func176,Tryz.ntmps176;go_wp2_with (first | (go_at_call 174;refine (Ld _).mono ?_;rintro e w1 ⟨rfl,b1⟩;replace hW:=Below.trans hW (b1.mono hW.size);replace hB:=Blk.below hB b1 (Blk.lt hB);have f0:=hB.frozen 0;have f1:=hB.frozen 1;have f2:=hB.frozen 2;have f3:=hB.frozen 3;obtain ⟨d0,d1,d2,d3⟩:=Ah hB;have hs:=hB.lt) | (go_at_call 175;refine (Le _).mono ?_;rintro e w1 ⟨rfl,b1⟩;replace hW:=Below.trans hW (b1.mono hW.size);replace hB:=Blk.below hB b1 (Blk.lt hB);have f0:=hB.frozen 0;have f1:=hB.frozen 1;have f2:=hB.frozen 2;have f3:=hB.frozen 3;obtain ⟨d0,d1,d2,d3⟩:=Ah hB;have hs:=hB.lt) | (go_at_call 161;refine (DA _ _ _).mono ?_;rintro e w1 ⟨rfl,b1⟩;replace hW:=Below.trans hW (b1.mono hW.size);replace hB:=Blk.below hB b1 (Blk.lt hB);have f0:=hB.frozen 0;have f1:=hB.frozen 1;have f2:=hB.frozen 2;have f3:=hB.frozen 3;obtain ⟨d0,d1,d2,d3⟩:=Ah hB;have hs:=hB.lt))
 refine bodyPost_ret (v:=.agg #[.int .u64 (ow (CU ||| CW) 0),.int .u64 (ow (CU ||| CW) 1),.int .u64 (ow (CU ||| CW) 2),.int .u64 (ow (CU ||| CW) 3)]) (by simp [results,Tryz.results176,go_sem,d0,d1,d2,d3]) rfl ⟨rfl,?_⟩;repeat (first | exact hW | refine Below.setCell ?_ (by simp) _)
theorem SB (w:World) :
  Calls Tryz.prog 178 #[] w fun e w'=>e=.returned (.agg #[.int .u64 (ow CZ 0),.int .u64 (ow CZ 1),.int .u64 (ow CZ 2),.int .u64 (ow CZ 3)])∧Below w.heap.size w w':=by
 have hB:=Blk.new w #[.int .u64 0,.int .u64 0,.int .u64 0,.int .u64 0] 109 _ rfl;have hW:=(Aeh w.heap.size w).alloc (Aec _) (.cells #[.int .u64 0,.int .u64 0,.int .u64 0,.int .u64 0] 109);go_enter Tryz.func178,Tryz.ntmps178;go_wp2_with (first | (go_at_call 176;refine (Lg _).mono ?_;rintro e w1 ⟨rfl,b1⟩;replace hW:=Below.trans hW (b1.mono hW.size);replace hB:=Blk.below hB b1 (Blk.lt hB);have f0:=hB.frozen 0;have f1:=hB.frozen 1;have f2:=hB.frozen 2;have f3:=hB.frozen 3;obtain ⟨d0,d1,d2,d3⟩:=Ah hB;have hs:=hB.lt) | (go_at_call 177;refine (Lf _).mono ?_;rintro e w1 ⟨rfl,b1⟩;replace hW:=Below.trans hW (b1.mono hW.size);replace hB:=Blk.below hB b1 (Blk.lt hB);have f0:=hB.frozen 0;have f1:=hB.frozen 1;have f2:=hB.frozen 2;have f3:=hB.frozen 3;obtain ⟨d0,d1,d2,d3⟩:=Ah hB;have hs:=hB.lt) | (go_at_call 161;refine (DA _ _ _).mono ?_;rintro e w1 ⟨rfl,b1⟩;replace hW:=Below.trans hW (b1.mono hW.size);replace hB:=Blk.below hB b1 (Blk.lt hB);have f0:=hB.frozen 0;have f1:=hB.frozen 1;have f2:=hB.frozen 2;have f3:=hB.frozen 3;obtain ⟨d0,d1,d2,d3⟩:=Ah hB;have hs:=hB.lt))
 refine bodyPost_ret (v:=.agg #[.int .u64 (ow (CY ||| BX) 0),.int .u64 (ow (CY ||| BX) 1),.int .u64 (ow (CY ||| BX) 2),.int .u64 (ow (CY ||| BX) 3)]) (by simp [results,Tryz.results178,go_sem,d0,d1,d2,d3]) rfl ⟨rfl,?_⟩;repeat (first | exact hW | refine Below.setCell ?_ (by simp) _)
theorem Cv {s t:OSet} {b c:Bool} (h:s=t) (h2:b=c):Ending.returned (.tuple #[.agg #[.int .u64 (ow s 0),.int .u64 (ow s 1),.int .u64 (ow s 2),.int .u64 (ow s 3)],.bool b])=.returned (.tuple #[.agg #[.int .u64 (ow t 0),.int .u64 (ow t 1),.int .u64 (ow t 2),.int .u64 (ow t 3)],.bool c]):=by rw [h,h2]
theorem Lh (s:ByteArray) (w:World) :
  Calls Tryz.prog 168 #[.string s] w fun e w'=>e=.returned (.tuple #[.agg #[.int .u64 (ow (A5 s.toList) 0),.int .u64 (ow (A5 s.toList) 1),.int .u64 (ow (A5 s.toList) 2),.int .u64 (ow (A5 s.toList) 3)],.bool (CH s.toList)])∧Below w.heap.size w w':=by
 have hB:=Blk.new w #[.int .u64 0,.int .u64 0,.int .u64 0,.int .u64 0] 109 _ rfl;have hW:=(Aeh w.heap.size w).alloc (Aec _) (.cells #[.int .u64 0,.int .u64 0,.int .u64 0,.int .u64 0] 109);go_enter Tryz.func168,Tryz.ntmps168;go_wp2_with (first | (go_at_call 174;refine (Ld _).mono ?_;rintro e w1 ⟨rfl,b1⟩;replace hW:=Below.trans hW (b1.mono hW.size);replace hB:=Blk.below hB b1 (Blk.lt hB);have f0:=hB.frozen 0;have f1:=hB.frozen 1;have f2:=hB.frozen 2;have f3:=hB.frozen 3;obtain ⟨d0,d1,d2,d3⟩:=Ah hB;have hs:=hB.lt) | (go_at_call 175;refine (Le _).mono ?_;rintro e w1 ⟨rfl,b1⟩;replace hW:=Below.trans hW (b1.mono hW.size);replace hB:=Blk.below hB b1 (Blk.lt hB);have f0:=hB.frozen 0;have f1:=hB.frozen 1;have f2:=hB.frozen 2;have f3:=hB.frozen 3;obtain ⟨d0,d1,d2,d3⟩:=Ah hB;have hs:=hB.lt) | (go_at_call 176;refine (Lg _).mono ?_;rintro e w1 ⟨rfl,b1⟩;replace hW:=Below.trans hW (b1.mono hW.size);replace hB:=Blk.below hB b1 (Blk.lt hB);have f0:=hB.frozen 0;have f1:=hB.frozen 1;have f2:=hB.frozen 2;have f3:=hB.frozen 3;obtain ⟨d0,d1,d2,d3⟩:=Ah hB;have hs:=hB.lt) | (go_at_call 177;refine (Lf _).mono ?_;rintro e w1 ⟨rfl,b1⟩;replace hW:=Below.trans hW (b1.mono hW.size);replace hB:=Blk.below hB b1 (Blk.lt hB);have f0:=hB.frozen 0;have f1:=hB.frozen 1;have f2:=hB.frozen 2;have f3:=hB.frozen 3;obtain ⟨d0,d1,d2,d3⟩:=Ah hB;have hs:=hB.lt) | (go_at_call 178;refine (SB _).mono ?_;rintro e w1 ⟨rfl,b1⟩;replace hW:=Below.trans hW (b1.mono hW.size);replace hB:=Blk.below hB b1 (Blk.lt hB);have f0:=hB.frozen 0;have f1:=hB.frozen 1;have f2:=hB.frozen 2;have f3:=hB.frozen 3;obtain ⟨d0,d1,d2,d3⟩:=Ah hB;have hs:=hB.lt) | (go_at_call 180;refine (SA _).mono ?_;rintro e w1 ⟨rfl,b1⟩;replace hW:=Below.trans hW (b1.mono hW.size);replace hB:=Blk.below hB b1 (Blk.lt hB);have f0:=hB.frozen 0;have f1:=hB.frozen 1;have f2:=hB.frozen 2;have f3:=hB.frozen 3;obtain ⟨d0,d1,d2,d3⟩:=Ah hB;have hs:=hB.lt) | (go_at_call 181;refine (S7 _).mono ?_;rintro e w1 ⟨rfl,b1⟩;replace hW:=Below.trans hW (b1.mono hW.size);replace hB:=Blk.below hB b1 (Blk.lt hB);have f0:=hB.frozen 0;have f1:=hB.frozen 1;have f2:=hB.frozen 2;have f3:=hB.frozen 3;obtain ⟨d0,d1,d2,d3⟩:=Ah hB;have hs:=hB.lt) | (go_at_call 179;refine (EM _ _ _ (by decide) (by decide) (by decide) (by decide)).mono ?_;rintro e w1 ⟨rfl,b1⟩;replace hW:=Below.trans hW (b1.mono hW.size);replace hB:=Blk.below hB b1 (Blk.lt hB);have f0:=hB.frozen 0;have f1:=hB.frozen 1;have f2:=hB.frozen 2;have f3:=hB.frozen 3;obtain ⟨d0,d1,d2,d3⟩:=Ah hB;have hs:=hB.lt) | (go_at_call 138;refine (CF 127 (by decide) (by decide) _ _ (by simp)).mono ?_;rintro e w1 ⟨rfl,b1⟩;replace hW:=Below.trans hW (b1.mono hW.size);replace hB:=Blk.below hB b1 (Blk.lt hB);have f0:=hB.frozen 0;have f1:=hB.frozen 1;have f2:=hB.frozen 2;have f3:=hB.frozen 3;obtain ⟨d0,d1,d2,d3⟩:=Ah hB;have hs:=hB.lt) | (go_at_call 161;refine (DA _ _ _).mono ?_;rintro e w1 ⟨rfl,b1⟩;replace hW:=Below.trans hW (b1.mono hW.size);replace hB:=Blk.below hB b1 (Blk.lt hB);have f0:=hB.frozen 0;have f1:=hB.frozen 1;have f2:=hB.frozen 2;have f3:=hB.frozen 3;obtain ⟨d0,d1,d2,d3⟩:=Ah hB;have hs:=hB.lt) | (go_at_call 182;refine (Ym _ _ _).mono ?_;rintro e w1 ⟨rfl,b1⟩;replace hW:=Below.trans hW (b1.mono hW.size);replace hB:=Blk.below hB b1 (Blk.lt hB);have f0:=hB.frozen 0;have f1:=hB.frozen 1;have f2:=hB.frozen 2;have f3:=hB.frozen 3;obtain ⟨d0,d1,d2,d3⟩:=Ah hB;have hs:=hB.lt) | (go_at_call 137;refine (Gb _ _).mono ?_;rintro e w1 ⟨rfl,b1⟩;replace hW:=Below.trans hW (b1.mono hW.size);replace hB:=Blk.below hB b1 (Blk.lt hB);have f0:=hB.frozen 0;have f1:=hB.frozen 1;have f2:=hB.frozen 2;have f3:=hB.frozen 3;obtain ⟨d0,d1,d2,d3⟩:=Ah hB;have hs:=hB.lt))
 ·refine bodyPost_ret (v:=.tuple #[.agg #[.int .u64 (ow CU 0),.int .u64 (ow CU 1),.int .u64 (ow CU 2),.int .u64 (ow CU 3)],.bool true]) (by simp [results,Tryz.results168,go_sem,d0,d1,d2,d3]) rfl ⟨Cv (by simp only [A5,cond_true, *] <;> rfl) (by simp [CH, *]),?_⟩
  repeat (first | exact hW | refine Below.setCell ?_ (by simp) _)
 ·refine bodyPost_ret (v:=.tuple #[.agg #[.int .u64 (ow CW 0),.int .u64 (ow CW 1),.int .u64 (ow CW 2),.int .u64 (ow CW 3)],.bool true]) (by simp [results,Tryz.results168,go_sem,d0,d1,d2,d3]) rfl ⟨Cv (by simp only [A5,cond_true,cond_false, *] <;> rfl) (by simp [CH, *]),?_⟩
  repeat (first | exact hW | refine Below.setCell ?_ (by simp) _)
 ·refine bodyPost_ret (v:=.tuple #[.agg #[.int .u64 (ow CY 0),.int .u64 (ow CY 1),.int .u64 (ow CY 2),.int .u64 (ow CY 3)],.bool true]) (by simp [results,Tryz.results168,go_sem,d0,d1,d2,d3]) rfl ⟨Cv (by simp only [A5,cond_true,cond_false, *] <;> rfl) (by simp [CH, *]),?_⟩
  repeat (first | exact hW | refine Below.setCell ?_ (by simp) _)
 ·refine bodyPost_ret (v:=.tuple #[.agg #[.int .u64 (ow BX 0),.int .u64 (ow BX 1),.int .u64 (ow BX 2),.int .u64 (ow BX 3)],.bool true]) (by simp [results,Tryz.results168,go_sem,d0,d1,d2,d3]) rfl ⟨Cv (by simp only [A5,cond_true,cond_false, *] <;> rfl) (by simp [CH, *]),?_⟩
  repeat (first | exact hW | refine Below.setCell ?_ (by simp) _)
 ·refine bodyPost_ret (v:=.tuple #[.agg #[.int .u64 (ow CZ 0),.int .u64 (ow CZ 1),.int .u64 (ow CZ 2),.int .u64 (ow CZ 3)],.bool true]) (by simp [results,Tryz.results168,go_sem,d0,d1,d2,d3]) rfl ⟨Cv (by simp only [A5,cond_true,cond_false, *] <;> rfl) (by simp [CH, *]),?_⟩
  repeat (first | exact hW | refine Below.setCell ?_ (by simp) _)
 ·refine bodyPost_ret (v:=.tuple #[.agg #[.int .u64 (ow (BX ||| Ab 65 70 ||| Ab 97 102) 0),.int .u64 (ow (BX ||| Ab 65 70 ||| Ab 97 102) 1),.int .u64 (ow (BX ||| Ab 65 70 ||| Ab 97 102) 2),.int .u64 (ow (BX ||| Ab 65 70 ||| Ab 97 102) 3)],.bool true]) (by simp [results,Tryz.results168,go_sem,d0,d1,d2,d3]) rfl ⟨Cv (by simp only [A5,cond_true,cond_false, *] <;> rfl) (by simp [CH, *]),?_⟩
  repeat (first | exact hW | refine Below.setCell ?_ (by simp) _)
 ·refine bodyPost_ret (v:=.tuple #[.agg #[.int .u64 (ow Da 0),.int .u64 (ow Da 1),.int .u64 (ow Da 2),.int .u64 (ow Da 3)],.bool true]) (by simp [results,Tryz.results168,go_sem,d0,d1,d2,d3]) rfl ⟨Cv (by simp only [A5,cond_true,cond_false, *] <;> rfl) (by simp [CH, *]),?_⟩
  repeat (first | exact hW | refine Below.setCell ?_ (by simp) _)
 ·refine bodyPost_ret (v:=.tuple #[.agg #[.int .u64 (ow (Da ||| Ab 10 13) 0),.int .u64 (ow (Da ||| Ab 10 13) 1),.int .u64 (ow (Da ||| Ab 10 13) 2),.int .u64 (ow (Da ||| Ab 10 13) 3)],.bool true]) (by simp [results,Tryz.results168,go_sem,d0,d1,d2,d3]) rfl ⟨Cv (by simp only [A5,cond_true,cond_false, *] <;> rfl) (by simp [CH, *]),?_⟩
  repeat (first | exact hW | refine Below.setCell ?_ (by simp) _)
 ·refine bodyPost_ret (v:=.tuple #[.agg #[.int .u64 (ow (Ab 0 31 ||| D2 [127]) 0),.int .u64 (ow (Ab 0 31 ||| D2 [127]) 1),.int .u64 (ow (Ab 0 31 ||| D2 [127]) 2),.int .u64 (ow (Ab 0 31 ||| D2 [127]) 3)],.bool true]) (by simp [results,Tryz.results168,go_sem,d0,d1,d2,d3]) rfl ⟨Cv (by simp only [A5,cond_true,cond_false, *] <;> rfl) (by simp [CH, *]),?_⟩
  repeat (first | exact hW | refine Below.setCell ?_ (by simp) _)
 ·refine bodyPost_ret (v:=.tuple #[.agg #[.int .u64 (ow (Ab 32 126) 0),.int .u64 (ow (Ab 32 126) 1),.int .u64 (ow (Ab 32 126) 2),.int .u64 (ow (Ab 32 126) 3)],.bool true]) (by simp [results,Tryz.results168,go_sem,d0,d1,d2,d3]) rfl ⟨Cv (by simp only [A5,cond_true,cond_false, *] <;> rfl) (by simp [CH, *]),?_⟩
  repeat (first | exact hW | refine Below.setCell ?_ (by simp) _)
 ·refine bodyPost_ret (v:=.tuple #[.agg #[.int .u64 (ow CX 0),.int .u64 (ow CX 1),.int .u64 (ow CX 2),.int .u64 (ow CX 3)],.bool true]) (by simp [results,Tryz.results168,go_sem,d0,d1,d2,d3]) rfl ⟨Cv (by simp only [A5,cond_true,cond_false, *] <;> rfl) (by simp [CH, *]),?_⟩
  repeat (first | exact hW | refine Below.setCell ?_ (by simp) _)
 ·refine bodyPost_ret (v:=.tuple #[.agg #[.int .u64 (ow (CX &&& ~~~CZ) 0),.int .u64 (ow (CX &&& ~~~CZ) 1),.int .u64 (ow (CX &&& ~~~CZ) 2),.int .u64 (ow (CX &&& ~~~CZ) 3)],.bool true]) (by simp [results,Tryz.results168,go_sem,d0,d1,d2,d3]) rfl ⟨Cv (by simp only [A5,cond_true,cond_false, *] <;> rfl) (by simp [CH, *]),?_⟩
  repeat (first | exact hW | refine Below.setCell ?_ (by simp) _)
 ·refine bodyPost_ret (v:=.tuple #[.agg #[.int .u64 (ow oz 0),.int .u64 (ow oz 1),.int .u64 (ow oz 2),.int .u64 (ow oz 3)],.bool false]) (by simp [results,Tryz.results168,go_sem,Al]) rfl ⟨Cv (by simp only [A5,cond_false, *] <;> rfl) (by simp [CH, *]),?_⟩
  repeat (first | exact hW | refine Below.setCell ?_ (by simp) _)
end
section
open Go.RowKit Go.Shelf
def Adu:Go.Shelf.Ren:=⟨fun | 29=>187 | n=>n,fun | 0=>0 | 3=>3 | 4=>4 | 5=>5 | 22=>107 | 25=>125 | 54=>274 | n=>n,fun | 1=>5 | n=>n⟩
theorem Ac2:Go.Proofs.Lays7.n29 Tryz.prog Adu:={
 mixed:=by kernel_rfl
 f29:=Tryz.func187.trans (congrArg some (by kernel_rfl))
 t0:=Tryz.underlying0
 a0:=Tryz.isAgg0
 z0:=Tryz.sizeOf0
 v0:=Tryz.zeroValue0
 i0:=by kernel_rfl
 t3:=Tryz.underlying3
 a3:=Tryz.isAgg3
 z3:=Tryz.sizeOf3
 v3:=Tryz.zeroValue3
 i3:=by kernel_rfl
 t4:=Tryz.underlying4
 a4:=Tryz.isAgg4
 z4:=Tryz.sizeOf4
 v4:=Tryz.zeroValue4
 i4:=by kernel_rfl
 t5:=Tryz.underlying5
 a5:=Tryz.isAgg5
 z5:=Tryz.sizeOf5
 v5:=Tryz.zeroValue5
 i5:=by kernel_rfl
 t22:=Tryz.underlying107
 a22:=Tryz.isAgg107
 z22:=Tryz.sizeOf107
 v22:=Tryz.zeroValue107
 i22:=by kernel_rfl
 t25:=Tryz.underlying125
 a25:=Tryz.isAgg125
 z25:=Tryz.sizeOf125
 v25:=Tryz.zeroValue125
 i25:=by kernel_rfl
 t54:=Tryz.underlying274
 a54:=Tryz.isAgg274
 z54:=Tryz.sizeOf274
 g1:=by kernel_rfl }
def TabIn (w:World):Prop:=TabAt 5 Lib.deBruijn64tab w
theorem E3 {w w':World} {B:Nat} (h:TabIn w) (hb:Below B w w') (hB:5 < B):TabIn w':=fun j hj=>(hb.cell (p:=⟨5,j,none⟩) hB).trans (h j hj)
theorem Gc (s:OSet) (i:Nat) (w:World) (hT:TabIn w) :
  Calls Tryz.prog 187 #[.int .u64 (ow s i)] w fun e w'=>e=.returned (.int .i64 (Lib.ctz 64 (F0 s i):Int))∧w=w':=
 (Any7.bits_TrailingZeros64 Ac2 (F0 s i) (Co s i) w (fun _=>hT)).mono fun _ _ ⟨h1,h2⟩=>⟨h1,h2.symm⟩
theorem Aa1 (x c:Nat) (hx:x < 18446744073709551616) (h1:x.testBit c=true) (h2:∀ j,j < c→x.testBit j=false):Lib.ctz 64 x=c:=by
 have hx0:x≠0:=by
  rintro rfl;simp at h1
 obtain ⟨m,hm,hlt⟩:=Lib.ctzFrom_spec 64 x (by omega) hx;unfold Lib.ctz;rw [if_neg hx0];generalize Lib.ctzFrom 64 x=d at hm hlt;have hd:x.testBit d=true:=by
  rw [hm,Nat.testBit_two_pow_mul];simp
 have hd2:∀ j,j < d→x.testBit j=false:=fun j hj=>by
  rw [hm,Nat.testBit_two_pow_mul];simp;omega
 rcases Nat.lt_trichotomy c d with h | h | h
 ·rw [hd2 c h] at h1;cases h1
 ·exact h.symm
 ·rw [h2 d h] at hd;cases hd
theorem SC (s:OSet) (i k:Nat) (h:∀ b,b < k→ohas s b=false) (hk:64 * i+64≤k):ow s i=0:=by
 have:F0 s i=0:=by
  refine (Il s i 0 (by decide) fun j hj=>?_).symm;have:=h (64 * i+j) (by omega);unfold ohas at this;simp [this]
 unfold ow;rw [this];rfl
theorem Pn (s:OSet) (k:Nat) (h1:ohas s k=true) (h:∀ b,b < k→ohas s b=false):(ow s (k / 64) != 0)=true∧Lib.ctz 64 (F0 s (k / 64))=k % 64:=by
 have hb:(F0 s (k / 64)).testBit (k % 64)=true:=by
  rw [Bf,show 64 * (k / 64)+k % 64=k by omega];unfold ohas at h1;simp [h1];omega
 refine ⟨?_,Aa1 _ _ (Co _ _) hb fun j hj=>?_⟩
 ·rw [bne_iff_ne];intro h0;have:F0 s (k / 64)=0:=by unfold ow at h0;omega
  rw [this] at hb;simp at hb
 ·rw [Bf];have:=h (64 * (k / 64)+j) (by omega);unfold ohas at this;simp [this]
theorem Mc (a b c d:Int) (w:World):(Instr.index 109 (.agg #[.int .u64 a,.int .u64 b,.int .u64 c,.int .u64 d]) (.int .i64 0)).run Tryz.prog w=.ok (.int .u64 a) w:=by kernel_rfl
theorem Md (a b c d:Int) (w:World):(Instr.index 109 (.agg #[.int .u64 a,.int .u64 b,.int .u64 c,.int .u64 d]) (.int .i64 1)).run Tryz.prog w=.ok (.int .u64 b) w:=by kernel_rfl
theorem Me (a b c d:Int) (w:World):(Instr.index 109 (.agg #[.int .u64 a,.int .u64 b,.int .u64 c,.int .u64 d]) (.int .i64 2)).run Tryz.prog w=.ok (.int .u64 c) w:=by kernel_rfl
theorem Mf (a b c d:Int) (w:World):(Instr.index 109 (.agg #[.int .u64 a,.int .u64 b,.int .u64 c,.int .u64 d]) (.int .i64 3)).run Tryz.prog w=.ok (.int .u64 d) w:=by kernel_rfl
theorem Po (s:OSet) (k:Nat) (hk:k < 256) (h1:ohas s k=true) (h:∀ b,b < k→ohas s b=false) (w:World) (hT:TabIn w) (hg:5 < w.heap.size) :
  Calls Tryz.prog 184 #[.agg #[.int .u64 (ow s 0),.int .u64 (ow s 1),.int .u64 (ow s 2),.int .u64 (ow s 3)]] w fun e w'=>e=.returned (.tuple #[.int .u8 (k:Int),.bool true])∧Below w.heap.size w w':=by
 have i0:=Mc (ow s 0) (ow s 1) (ow s 2) (ow s 3);have i1:=Md (ow s 0) (ow s 1) (ow s 2) (ow s 3);have i2:=Me (ow s 0) (ow s 1) (ow s 2) (ow s 3);have i3:=Mf (ow s 0) (ow s 1) (ow s 2) (ow s 3);obtain ⟨w1,w2⟩:=Pn s k h1 h;have hT1:TabIn (w.alloc (.cells #[.int .u64 (ow s 0),.int .u64 (ow s 1),.int .u64 (ow s 2),.int .u64 (ow s 3)] 109)):=E3 hT ((Aeh w.heap.size w).alloc (Aec _) _) hg;have Hz:=Ad5 (fun i (hi:64 * i+64≤k)=>show (ow s i != 0)=false by rw [SC s i k h hi];rfl);clear h1 h hT;have hc:k % 64 < 64:=by omega
 generalize hcc:k % 64=c at w2 hc;have Hc:=Ad5 hcc;clear hcc;have hq:k / 64=0∨k / 64=1∨k / 64=2∨k / 64=3:=by omega
 rcases hq with hq | hq | hq | hq
 ·rw [hq] at w1 w2;have Hq:=Ad5 hq;clear hq;have He:=Ad5 (show ((64 * 0+c:Nat):Int)=(k:Int) by have:=Hq.out;have:=Hc.out;omega);go_enter Tryz.func184,Tryz.ntmps184
  go_wp2
  refine wp_loop_rounds 1 ?_;rw [rounds_succ];go_wp2_with (go_at_call 187;refine (Gc s _ _ hT1).mono ?_;rintro e w' ⟨rfl,rfl⟩)
  go_ret2
  refine ⟨by rw [←He.out];simp,(Aeh _ _).alloc (Aec _) _⟩
 ·rw [hq] at w1 w2;have Hq:=Ad5 hq;clear hq;have z0:=Hz.out 0 (by have:=Hq.out;omega);have He:=Ad5 (show ((64 * 1+c:Nat):Int)=(k:Int) by have:=Hq.out;have:=Hc.out;omega);go_enter Tryz.func184,Tryz.ntmps184
  go_wp2
  refine wp_loop_rounds 2 ?_;rw [rounds_succ]
  go_wp2
  rw [rounds_succ];go_wp2_with (go_at_call 187;refine (Gc s _ _ hT1).mono ?_;rintro e w' ⟨rfl,rfl⟩)
  go_ret2
  refine ⟨by rw [←He.out];simp,(Aeh _ _).alloc (Aec _) _⟩
 ·rw [hq] at w1 w2;have Hq:=Ad5 hq;clear hq;have z0:=Hz.out 0 (by have:=Hq.out;omega);have z1:=Hz.out 1 (by have:=Hq.out;omega);have He:=Ad5 (show ((64 * 2+c:Nat):Int)=(k:Int) by have:=Hq.out;have:=Hc.out;omega);go_enter Tryz.func184,Tryz.ntmps184
  go_wp2
  refine wp_loop_rounds 3 ?_
  iterate 2 (rw [rounds_succ];go_wp2)
  rw [rounds_succ];go_wp2_with (go_at_call 187;refine (Gc s _ _ hT1).mono ?_;rintro e w' ⟨rfl,rfl⟩)
  go_ret2
  refine ⟨by rw [←He.out];simp,(Aeh _ _).alloc (Aec _) _⟩
 ·rw [hq] at w1 w2;have Hq:=Ad5 hq;clear hq;have z0:=Hz.out 0 (by have:=Hq.out;omega);have z1:=Hz.out 1 (by have:=Hq.out;omega);have z2:=Hz.out 2 (by have:=Hq.out;omega);have He:=Ad5 (show ((64 * 3+c:Nat):Int)=(k:Int) by have:=Hq.out;have:=Hc.out;omega);go_enter Tryz.func184,Tryz.ntmps184
  go_wp2
  refine wp_loop_rounds 4 ?_
  iterate 3 (rw [rounds_succ];go_wp2)
  rw [rounds_succ];go_wp2_with (go_at_call 187;refine (Gc s _ _ hT1).mono ?_;rintro e w' ⟨rfl,rfl⟩)
  go_ret2
  refine ⟨by rw [←He.out];simp,(Aeh _ _).alloc (Aec _) _⟩
end
end Go.Proofs.YteilldmmihiijaaGreatDoor
