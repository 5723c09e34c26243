/- Texts. -/
import Derived.Shelf.Strings.BuilderK
import Derived.Shelf.Strings.BuilderRune
import Derived.Test.YteilldmmihiijaaGreatDoorRows
import GoSem.Claim
import Derived.Laws.Bits64b
import Derived.Laws.Bits64
import Derived.Laws.BitsAllLaws
import Derived.Lib.DecodeN
import Derived.Lib.RuneBytes
import Derived.Laws.BytesArg
import Derived.Lib.SlTrimSet
import Derived.Lib.IndexAny
import Derived.Lib.IndexBytes
import Derived.Shelf.Strings.SlTrimAscii
import Derived.Shelf.Strings.IndexAnyAll
import Derived.Shelf.Small.Strs
import Derived.WalkKit
import Derived.WalkSpells
import Derived.WalkLawsBesides
import Derived.BigCall
import Derived.BigQuiet
import Derived.Deep.QuietTactic
import Derived.Lib.Hide
set_option linter.unusedSimpArgs false
set_option linter.unusedVariables false
set_option maxHeartbeats 8000000
set_option maxRecDepth 1000000
namespace Go.Proofs.YteilldmmihiijaaGreatDoor
open Go.Lib renaming hid→Ac8
open List renaming getElem_cons_zero→Ada,length_append→Adh,mem_cons→Ado,mem_append→Adp
open Nat renaming le_refl→Adf,le_trans→Adg,lt_of_lt_of_le→Adi
open Go.RowKit.Below renaming refl→Adk
open Go.IntWalk renaming i64_in→Adm
section
open Go.RowKit Go.Shelf
def QG:Go.Shelf.Ren:=⟨fun | 167=>87 | 240=>106 | 276=>121 | n=>n,fun | 0=>0 | 4=>4 | 5=>5 | 9=>9 | 20=>20 | 37=>165 | 70=>164 | 72=>167 | 75=>169 | 164=>213 | 80=>61 | n=>n,fun | n=>n⟩
theorem TX:Go.Proofs.Lays.n167 Tryz.prog QG:={
 mixed:=by kernel_rfl
 f167:=Tryz.func87.trans (congrArg some (by kernel_rfl))
 f240:=Tryz.func106.trans (congrArg some (by kernel_rfl))
 f276:=Tryz.func121.trans (congrArg some (by kernel_rfl))
 t0:=Tryz.underlying0
 a0:=Tryz.isAgg0
 z0:=Tryz.sizeOf0
 v0:=Tryz.zeroValue0
 t4:=Tryz.underlying4
 a4:=Tryz.isAgg4
 z4:=Tryz.sizeOf4
 v4:=Tryz.zeroValue4
 t5:=Tryz.underlying5
 a5:=Tryz.isAgg5
 z5:=Tryz.sizeOf5
 v5:=Tryz.zeroValue5
 t9:=Tryz.underlying9
 a9:=Tryz.isAgg9
 z9:=Tryz.sizeOf9
 v9:=Tryz.zeroValue9
 t20:=Tryz.underlying20
 a20:=Tryz.isAgg20
 z20:=Tryz.sizeOf20
 v20:=Tryz.zeroValue20
 t37:=Tryz.underlying165
 a37:=Tryz.isAgg165
 z37:=Tryz.sizeOf165
 v37:=Tryz.zeroValue165
 t70:=Tryz.underlying164
 a70:=Tryz.isAgg164
 z70:=Tryz.sizeOf164
 v70:=Tryz.zeroValue164
 t72:=Tryz.underlying167
 a72:=Tryz.isAgg167
 z72:=Tryz.sizeOf167
 v72:=Tryz.zeroValue167
 t75:=Tryz.underlying169
 a75:=Tryz.isAgg169
 z75:=Tryz.sizeOf169
 v75:=Tryz.zeroValue169
 t164:=Tryz.underlying213
 a164:=Tryz.isAgg213
 z164:=Tryz.sizeOf213
 v164:=Tryz.zeroValue213 }
theorem RF:Builder.Extra Tryz.prog QG:={
 sizeBuilder:=by kernel_rfl
 liesBuilder:=by kernel_rfl
 t5:=Tryz.underlying5
 a5:=Tryz.isAgg5
 z5:=Tryz.sizeOf5
 v5:=Tryz.zeroValue5
 infoByte:=by kernel_rfl
 cellsByte:=by kernel_rfl
 sizeByte:=by kernel_rfl
 neB5:=by decide }
theorem El (B b:Nat) (bs:List Value) (c:Int) (w:World) (h:Lib.IsBuilderF 167 5 B b bs w) (hlen:bs.length+1≤140737488355328) (hBw:B≤w.heap.size) :
  Calls Tryz.prog 87 #[.pointer (some ⟨b,0,none⟩),.int .u8 c] w fun e w'=>e=.returned .nilIface∧(Lib.BuilderAtF 167 5 B b (.pointer (some ⟨b,0,none⟩)) (bs++[.int .u8 c]) w'∧Below B w w'∧Lib.OthersKept 5 (some b) w w'):=Any.Builder_WriteByte_k TX RF B b bs c w h hlen hBw
def QH:Go.Shelf.Ren:=⟨fun | 168=>144 | 240=>106 | 242=>156 | 276=>121 | 278=>164 | n=>n,fun | 0=>0 | 3=>3 | 4=>4 | 5=>5 | 9=>9 | 20=>20 | 21=>21 | 37=>165 | 46=>125 | 51=>150 | 70=>164 | 72=>167 | 75=>169 | 164=>213 | 80=>61 | n=>n,fun | n=>n⟩
theorem TY:Go.Proofs.Lays.n168 Tryz.prog QH:={
 mixed:=by kernel_rfl
 f168:=Tryz.func144.trans (congrArg some (by kernel_rfl))
 f240:=Tryz.func106.trans (congrArg some (by kernel_rfl))
 f242:=Tryz.func156.trans (congrArg some (by kernel_rfl))
 f276:=Tryz.func121.trans (congrArg some (by kernel_rfl))
 f278:=Tryz.func164.trans (congrArg some (by kernel_rfl))
 t0:=Tryz.underlying0
 a0:=Tryz.isAgg0
 z0:=Tryz.sizeOf0
 v0:=Tryz.zeroValue0
 t3:=Tryz.underlying3
 a3:=Tryz.isAgg3
 z3:=Tryz.sizeOf3
 v3:=Tryz.zeroValue3
 t4:=Tryz.underlying4
 a4:=Tryz.isAgg4
 z4:=Tryz.sizeOf4
 v4:=Tryz.zeroValue4
 t5:=Tryz.underlying5
 a5:=Tryz.isAgg5
 z5:=Tryz.sizeOf5
 v5:=Tryz.zeroValue5
 t9:=Tryz.underlying9
 a9:=Tryz.isAgg9
 z9:=Tryz.sizeOf9
 v9:=Tryz.zeroValue9
 t20:=Tryz.underlying20
 a20:=Tryz.isAgg20
 z20:=Tryz.sizeOf20
 v20:=Tryz.zeroValue20
 t21:=Tryz.underlying21
 a21:=Tryz.isAgg21
 z21:=Tryz.sizeOf21
 v21:=Tryz.zeroValue21
 t37:=Tryz.underlying165
 a37:=Tryz.isAgg165
 z37:=Tryz.sizeOf165
 v37:=Tryz.zeroValue165
 t46:=Tryz.underlying125
 a46:=Tryz.isAgg125
 z46:=Tryz.sizeOf125
 v46:=Tryz.zeroValue125
 t51:=Tryz.underlying150
 a51:=Tryz.isAgg150
 z51:=Tryz.sizeOf150
 v51:=Tryz.zeroValue150
 t70:=Tryz.underlying164
 a70:=Tryz.isAgg164
 z70:=Tryz.sizeOf164
 v70:=Tryz.zeroValue164
 t72:=Tryz.underlying167
 a72:=Tryz.isAgg167
 z72:=Tryz.sizeOf167
 v72:=Tryz.zeroValue167
 t75:=Tryz.underlying169
 a75:=Tryz.isAgg169
 z75:=Tryz.sizeOf169
 v75:=Tryz.zeroValue169
 t164:=Tryz.underlying213
 a164:=Tryz.isAgg213
 z164:=Tryz.sizeOf213
 v164:=Tryz.zeroValue213 }
theorem RG:Builder.Extra Tryz.prog QH:={
 sizeBuilder:=by kernel_rfl
 liesBuilder:=by kernel_rfl
 t5:=Tryz.underlying5
 a5:=Tryz.isAgg5
 z5:=Tryz.sizeOf5
 v5:=Tryz.zeroValue5
 infoByte:=by kernel_rfl
 cellsByte:=by kernel_rfl
 sizeByte:=by kernel_rfl
 neB5:=by decide }
theorem MX (B b:Nat) (bs:List Value) (r:Int) (hr0:-2147483648≤r) (hr1:r≤2147483647) (w:World) (h:Lib.IsBuilderF 167 5 B b bs w) (hlen:bs.length+4≤140737488355328) (hBw:B≤w.heap.size) :
  Calls Tryz.prog 144 #[.pointer (some ⟨b,0,none⟩),.int .i32 r] w fun e w'=>e=.returned (.tuple #[.int .i64 (Lib.runeCells r).length,.nilIface])∧(Lib.BuilderAtF 167 5 B b (.pointer (some ⟨b,0,none⟩)) (bs++Lib.runeCells r) w'∧Below B w w'∧Lib.OthersKept 5 (some b) w w'):=Any.Builder_WriteRune_k TY RG B b bs r hr0 hr1 w h hlen hBw
def QI:Go.Shelf.Ren:=⟨fun | 169=>88 | n=>n,fun | 0=>0 | 3=>3 | 9=>9 | 37=>165 | 70=>164 | 72=>167 | 127=>186 | 5=>5 | n=>n,fun | n=>n⟩
theorem TZ:Go.Proofs.Lays.n169 Tryz.prog QI:={
 mixed:=by kernel_rfl
 f169:=Tryz.func88.trans (congrArg some (by kernel_rfl))
 t0:=Tryz.underlying0
 a0:=Tryz.isAgg0
 z0:=Tryz.sizeOf0
 v0:=Tryz.zeroValue0
 t3:=Tryz.underlying3
 a3:=Tryz.isAgg3
 z3:=Tryz.sizeOf3
 v3:=Tryz.zeroValue3
 t9:=Tryz.underlying9
 a9:=Tryz.isAgg9
 z9:=Tryz.sizeOf9
 v9:=Tryz.zeroValue9
 t37:=Tryz.underlying165
 a37:=Tryz.isAgg165
 z37:=Tryz.sizeOf165
 v37:=Tryz.zeroValue165
 t70:=Tryz.underlying164
 a70:=Tryz.isAgg164
 z70:=Tryz.sizeOf164
 v70:=Tryz.zeroValue164
 t72:=Tryz.underlying167
 a72:=Tryz.isAgg167
 z72:=Tryz.sizeOf167
 v72:=Tryz.zeroValue167
 t127:=Tryz.underlying186
 a127:=Tryz.isAgg186
 z127:=Tryz.sizeOf186
 v127:=Tryz.zeroValue186 }
theorem RH:Builder.Extra Tryz.prog QI:={
 sizeBuilder:=by kernel_rfl
 liesBuilder:=by kernel_rfl
 t5:=Tryz.underlying5
 a5:=Tryz.isAgg5
 z5:=Tryz.sizeOf5
 v5:=Tryz.zeroValue5
 infoByte:=by kernel_rfl
 cellsByte:=by kernel_rfl
 sizeByte:=by kernel_rfl
 neB5:=by decide }
theorem Cz (B b:Nat) (l:List UInt8) (w:World) (h:Lib.IsBuilderF 167 5 B b (Lib.byteCells l) w) (hBw:B≤w.heap.size) :
  Calls Tryz.prog 88 #[.pointer (some ⟨b,0,none⟩)] w fun e w'=>e=.returned (.string ⟨l.toArray⟩)∧(Lib.IsBuilderF 167 5 B b (Lib.byteCells l) w'∧Below B w w'∧Lib.OthersKept 5 (some b) w w'):=Any.Builder_String_any_k TZ RH B b l w h hBw
end
section
abbrev OSet:=BitVec 256
def Fp (s:OSet) (i:Nat):Nat:=s.toNat / 2 ^ (64 * i) % 18446744073709551616
def ow (s:OSet) (i:Nat):Int:=(Fp s i:Int)
theorem Ci (s:OSet) (i:Nat):Fp s i < 18446744073709551616:=Nat.mod_lt _ (by decide)
theorem KN (s:OSet) (i:Nat):0≤ow s i:=Int.natCast_nonneg _
theorem Ab1 (s:OSet) (i:Nat):ow s i < 18446744073709551616:=by have:=Ci s i;unfold ow;omega
theorem Be (s:OSet) (i j:Nat):(Fp s i).testBit j=(decide (j < 64) && s.getLsbD (64 * i+j)):=by
 unfold Fp;rw [show (18446744073709551616:Nat)=2 ^ 64 from rfl,Nat.testBit_mod_two_pow,Nat.testBit_div_two_pow];rw [BitVec.getLsbD]
 congr 2
 omega
theorem If (s:OSet) (i n:Nat) (hn:n < 18446744073709551616) (h:∀ j,j < 64→n.testBit j=s.getLsbD (64 * i+j)):n=Fp s i:=by
 refine Nat.eq_of_testBit_eq fun j=>?_
 rw [Be];by_cases hj:j < 64
 ·rw [h j hj];simp [hj]
 ·rw [Nat.testBit_lt_two_pow (Adi hn (by rw [show (18446744073709551616:Nat)=2 ^ 64 from rfl];exact Nat.pow_le_pow_right (by decide) (by omega)))]
  simp [hj]
theorem Ua {s t:OSet} (h:∀ i,i < 4→ow s i=ow t i):s=t:=by
 refine BitVec.eq_of_getLsbD_eq fun k hk=>?_
 have h1:Fp s (k / 64)=Fp t (k / 64):=by
  have:=h (k / 64) (by omega);unfold ow at this;omega
 have h2:=Be s (k / 64) (k % 64);have h3:=Be t (k / 64) (k % 64);rw [h1,h3] at h2;have h4:64 * (k / 64)+k % 64=k:=by omega
 have h5:k % 64 < 64:=by omega
 rw [h4] at h2;simpa [h5] using h2.symm
theorem QJ {s t:OSet} (h:s≠t):¬ (ow s 0=ow t 0∧ow s 1=ow t 1∧ow s 2=ow t 2∧ow s 3=ow t 3):=by
 intro ⟨h0,h1,h2,h3⟩;refine h (Ua fun i hi=>?_)
 match i,hi with
 | 0,_=>exact h0
 | 1,_=>exact h1
 | 2,_=>exact h2
 | 3,_=>exact h3
theorem X2 (s t:OSet) (i:Nat):Fp s i &&& Fp t i=Fp (s &&& t) i:=by
 refine If _ _ _ (Nat.lt_of_le_of_lt Nat.and_le_left (Ci s i)) fun j hj=>?_
 simp [Nat.testBit_and,Be,hj]
theorem ZC (s t:OSet) (i:Nat):Fp s i ||| Fp t i=Fp (s ||| t) i:=by
 refine If _ _ _ ?_ fun j hj=>?_
 ·rw [show (18446744073709551616:Nat)=2 ^ 64 from rfl]
  exact Nat.or_lt_two_pow (Ci s i) (Ci t i)
 ·simp [Nat.testBit_or,Be,hj]
theorem X4 (s:OSet) (i:Nat) (hi:i < 4):18446744073709551615 - Fp s i=Fp (~~~s) i:=by
 refine If _ _ _ (by omega) fun j hj=>?_
 have h:=Nat.testBit_two_pow_sub_succ (n:=64) (Ci s i) j;rw [show (2:Nat) ^ 64 - (Fp s i+1)=18446744073709551615 - Fp s i by have:=Ci s i;omega] at h;rw [h,Be];have h256:64 * i+j < 256:=by omega
 simp [hj,h256]
theorem En (s t:OSet) (i:Nat):bits .and .u64 (ow s i) (ow t i)=ow (s &&& t) i:=by
 unfold ow;rw [bits_and_u64_nat _ _ (Ci s i) (Ci t i),X2]
theorem EO (s t:OSet) (i:Nat):bits .or .u64 (ow s i) (ow t i)=ow (s ||| t) i:=by
 unfold ow;rw [bits_or_u64_nat _ _ (Ci s i) (Ci t i),ZC]
theorem X5 (n:Nat) (h:n < 18446744073709551616):18446744073709551615 ^^^ n=18446744073709551615 - n:=by
 refine Nat.eq_of_testBit_eq fun j=>?_
 have h2:=Nat.testBit_two_pow_sub_succ (n:=64) h j;rw [show (2:Nat) ^ 64 - (n+1)=18446744073709551615 - n by omega] at h2;rw [h2,Nat.testBit_xor,show (18446744073709551615:Nat)=2 ^ 64 - 1 from rfl,Nat.testBit_two_pow_sub_one];by_cases hj:j < 64
 ·simp [hj]
 ·rw [Nat.testBit_lt_two_pow (Adi h (by rw [show (18446744073709551616:Nat)=2 ^ 64 from rfl];exact Nat.pow_le_pow_right (by decide) (by omega)))]
  simp [hj]
theorem Eo (s:OSet) (i:Nat) (hi:i < 4):bits .xor .u64 18446744073709551615 (ow s i)=ow (~~~s) i:=by
 unfold ow;have h:=bits_xor_u64_nat 18446744073709551615 (Fp s i) (by decide) (Ci s i);rw [X5 _ (Ci s i),X4 s i hi] at h;exact h
def ohas (s:OSet) (x:Nat):Bool:=s.getLsbD x
def Gq (x:Nat):OSet:=BitVec.ofNat 256 (2 ^ x)
theorem Jm (x y:Nat) (hx:x < 256):(Gq x).getLsbD y=decide (x=y):=by
 unfold Gq;rw [BitVec.getLsbD_ofNat,Nat.testBit_two_pow];by_cases h:x=y
 ·subst h;simp [hx]
 ·simp [h]
theorem ZD (s:OSet) (i j:Nat) (hj:j < 64):Fp s i / 2 ^ j % 2=(s.getLsbD (64 * i+j)).toNat:=by
 have h:=Be s i j;rw [Nat.testBit_eq_decide_div_mod_eq] at h;simp only [hj,decide_true,Bool.true_and] at h;have h2:Fp s i / 2 ^ j % 2=0∨Fp s i / 2 ^ j % 2=1:=by omega
 rcases h2 with h2 | h2
 ·rw [h2] at h;rw [h2,←h];simp
 ·rw [h2] at h;rw [h2,←h];simp
theorem Ub (s:OSet) (i:Nat) (x:Int) (h0:0≤x) (h1:x≤255) (hi:x / 64=i):(ow s i / 2 ^ (x % 64).toNat) % 2=if ohas s x.toNat then 1 else 0:=by
 obtain ⟨n,rfl⟩:=Int.eq_ofNat_of_zero_le h0;have e1:((n:Int) % 64).toNat=n % 64:=by omega
 have e2:64 * i+n % 64=n:=by omega
 have h:=ZD s i (n % 64) (by omega);rw [e2] at h;rw [e1,Int.toNat_natCast];unfold ow ohas;have e3:((Fp s i:Int) / 2 ^ (n % 64) % 2)=((Fp s i / 2 ^ (n % 64) % 2:Nat):Int):=by simp
 rw [e3,h];cases s.getLsbD n <;> simp
theorem Jn (s:OSet) (i k:Nat):0≤ow s i / 2 ^ k:=Int.ediv_nonneg (KN s i) (by exact_mod_cast Nat.zero_le _)
theorem OE (s:OSet) (i k:Nat):ow s i / 2 ^ k < 18446744073709551616:=by
 refine Int.lt_of_le_of_lt ?_ (Ab1 s i);exact Int.ediv_le_self _ (KN s i)
theorem X6 (s:OSet) (i:Nat) (x:Int) (h0:0≤x) (h1:x≤255) (hi:x / 64=i):(bits .and .u64 (ow s i / 2 ^ (x % 64).toNat) 1 == 1)=ohas s x.toNat:=by
 have h2:=Jn s i (x % 64).toNat
 have h3:=OE s i (x % 64).toNat
 have h:=bits_and_u64_nat (ow s i / 2 ^ (x % 64).toNat).toNat 1 (by omega) (by omega);rw [Nat.and_one_is_mod,Int.toNat_of_nonneg h2] at h;have h4:=Ub s i x h0 h1 hi;have h5:(((ow s i / 2 ^ (x % 64).toNat).toNat % 2:Nat):Int)=(ow s i / 2 ^ (x % 64).toNat) % 2:=by omega
 rw [show ((1:Nat):Int)=1 from rfl] at h;rw [h,h5,h4];cases ohas s x.toNat <;> rfl
theorem X7 (s:OSet) (i x:Nat) (hx:x < 256) (hi:x / 64=i):Fp s i ||| 2 ^ (x % 64)=Fp (s ||| Gq x) i:=by
 have hp:2 ^ (x % 64) < 2 ^ 64:=Nat.pow_lt_pow_right (by decide) (by omega);refine If _ _ _ ?_ fun j hj=>?_
 ·rw [show (18446744073709551616:Nat)=2 ^ 64 from rfl]
  exact Nat.or_lt_two_pow (Ci s i) hp
 ·rw [Nat.testBit_or,Be,BitVec.getLsbD_or,Jm _ _ hx,Nat.testBit_two_pow]
  simp only [hj,decide_true,Bool.true_and]
  congr 1
  exact decide_eq_decide.2 (by omega)
theorem Ky (s:OSet) (i x:Nat) (hx:x < 256) (hi:x / 64≠i):Fp s i=Fp (s ||| Gq x) i:=by
 refine If _ _ _ (Ci s i) fun j hj=>?_
 rw [Be,BitVec.getLsbD_or,Jm _ _ hx];have:x≠64 * i+j:=by omega
 simp [hj,this]
theorem MY (s:OSet) (i:Nat) (x:Int) (h0:0≤x) (h1:x≤255) (hi:x / 64=i):bits .or .u64 (ow s i) (2 ^ (x % 64).toNat)=ow (s ||| Gq x.toNat) i:=by
 obtain ⟨n,rfl⟩:=Int.eq_ofNat_of_zero_le h0;have e1:((n:Int) % 64).toNat=n % 64:=by omega
 have hp:2 ^ (n % 64) < 2 ^ 64:=Nat.pow_lt_pow_right (by decide) (by omega);have h:=bits_or_u64_nat (Fp s i) (2 ^ (n % 64)) (Ci s i) hp;rw [X7 s i n (by omega) (by omega)] at h;rw [e1,Int.toNat_natCast];unfold ow;rw [←h];simp
theorem GE (s:OSet) (i:Nat) (x:Int) (h0:0≤x) (h1:x≤255) (hi:x / 64≠i):ow (s ||| Gq x.toNat) i=ow s i:=by
 unfold ow;rw [←Ky s i x.toNat (by omega) (by omega)]
def oz:OSet:=0
theorem Al (i:Nat):ow oz i=0:=by simp [oz,ow,Fp]
def Dt (zs:List Int):OSet:=zs.foldl (fun s x=>s ||| Gq x.toNat) oz
def CH (lo:Nat):Nat→OSet
 | 0=>oz
 | n+1=>CH lo n ||| Gq (lo+n)
def Ab (lo hi:Int):OSet:=CH lo.toNat (hi - lo+1).toNat
theorem X8:Dt []=oz:=rfl
theorem Uc (zs:List Int) (k:Nat) (h:k < zs.length):Dt (zs.take (k+1))=Dt (zs.take k) ||| Gq (zs.getD k 0).toNat:=by
 unfold Dt;rw [List.take_succ_eq_append_getElem h,List.foldl_append];simp [List.getD,List.getElem?_eq_getElem h]
end
section
def prv (s:OSet) (k:Nat):Bool:=decide (0 < k) && ohas s (k - 1)
def QK:List (Nat × Nat)→Nat→List (Nat × Nat)
 | [],_=>[]
 | [p],k=>[(p.1,k)]
 | p :: q :: l,k=>p :: QK (q :: l) k
def Ig (s:OSet):Nat→List (Nat × Nat)
 | 0=>[]
 | k+1=>if ohas s k then (if prv s k then QK (Ig s k) k else Ig s k++[(k,k)]) else Ig s k
theorem Jo (p:Nat × Nat) (k:Nat):∀ l:List (Nat × Nat),QK (l++[p]) k=l++[(p.1,k)]
 | []=>rfl
 | [a]=>rfl
 | a :: b :: l=>by
  have h:=Jo p k (b :: l);simp only [List.cons_append] at h ⊢;rw [QK,h]
theorem MZ (s:OSet) (k:Nat):prv s (k+1)=ohas s k:=by simp [prv]
structure SpOk (s:OSet) (k:Nat) (l:List (Nat × Nat)):Prop where
 le:∀ p∈l,p.1≤p.2∧p.2 < k
 apart:∀ i,∀ h:i+1 < l.length,(l[i]'(by omega)).2+1 < (l[i+1]'h).1
 mem:∀ b,b < k→(ohas s b=true ↔ ∃ p∈l,p.1≤b∧b≤p.2)
 last:prv s k=true→∃ a p,l=a++[p]∧p.2+1=k
 gap:prv s k=false→∀ p∈l,p.2+1 < k∨k=0
theorem ZE (s:OSet):∀ k,SpOk s k (Ig s k)
 | 0=>⟨by simp [Ig],by simp [Ig],by simp,by simp [prv],by simp [Ig]⟩
 | k+1=>by
  have ih:=ZE s k;unfold Ig;by_cases hk:ohas s k=true
  ·rw [if_pos hk]
   have hp1:prv s (k+1)=true:=by rw [MZ,hk]
   by_cases hp:prv s k=true
   ·rw [if_pos hp]
    obtain ⟨a,p,hl,hpk⟩:=ih.last hp;rw [hl,Jo];rw [hl] at ih;refine ⟨?_,?_,?_,fun _=>⟨a,_,rfl,rfl⟩,fun h=>by rw [hp1] at h;cases h⟩
    ·intro q hq
     rcases Adp.1 hq with hq | hq
     ·have:=ih.le q (List.mem_append_left _ hq);omega
     ·simp only [List.mem_singleton] at hq
      have:=ih.le p (by simp);subst hq;simp only;omega
    ·intro i h
     have h1:=ih.apart i (by simpa using h);simp only [Adh,List.length_cons,List.length_nil] at h;by_cases hi:i+1 < a.length
     ·rw [List.getElem_append_left (by omega),List.getElem_append_left hi] at h1 ⊢
      exact h1
     ·have e:i+1=a.length:=by omega
      rw [List.getElem_append_left (by omega),List.getElem_append_right (by omega)] at h1 ⊢;simp only [e,Nat.sub_self,Ada] at h1 ⊢;exact h1
    ·intro b hb
     by_cases hbk:b < k
     ·rw [ih.mem b hbk]
      constructor
      ·rintro ⟨q,hq,h1,h2⟩
       rcases Adp.1 hq with hq | hq
       ·exact ⟨q,List.mem_append_left _ hq,h1,h2⟩
       ·simp only [List.mem_singleton] at hq
        subst hq;exact ⟨(q.1,k),by simp,h1,by simp only;omega⟩
      ·rintro ⟨q,hq,h1,h2⟩
       rcases Adp.1 hq with hq | hq
       ·exact ⟨q,List.mem_append_left _ hq,h1,h2⟩
       ·simp only [List.mem_singleton] at hq
        subst hq;simp only at h1 h2;exact ⟨p,by simp,h1,by omega⟩
     ·have e:b=k:=by omega
      subst e;refine ⟨fun _=>⟨(p.1,b),by simp,?_,by simp⟩,fun _=>hk⟩;have:=ih.le p (by simp);simp only;omega
   ·have hp':prv s k=false:=by simpa using hp
    rw [if_neg hp];refine ⟨?_,?_,?_,fun _=>⟨_,_,rfl,rfl⟩,fun h=>by rw [hp1] at h;cases h⟩
    ·intro q hq
     rcases Adp.1 hq with hq | hq
     ·have:=ih.le q hq;omega
     ·simp only [List.mem_singleton] at hq
      subst hq;simp
    ·intro i h
     simp only [Adh,List.length_cons,List.length_nil] at h;by_cases hi:i+1 < (Ig s k).length
     ·rw [List.getElem_append_left (by omega),List.getElem_append_left hi]
      exact ih.apart i hi
     ·have e:i+1=(Ig s k).length:=by omega
      rw [List.getElem_append_left (by omega),List.getElem_append_right (by omega)];simp only [e,Nat.sub_self,Ada];have hm:=List.getElem_mem (l:=Ig s k) (n:=i) (by omega);rcases ih.gap hp' _ hm with h1 | h1
      ·exact h1
      ·have:=ih.le _ hm;omega
    ·intro b hb
     by_cases hbk:b < k
     ·rw [ih.mem b hbk]
      constructor
      ·rintro ⟨q,hq,h1,h2⟩
       exact ⟨q,List.mem_append_left _ hq,h1,h2⟩
      ·rintro ⟨q,hq,h1,h2⟩
       rcases Adp.1 hq with hq | hq
       ·exact ⟨q,hq,h1,h2⟩
       ·simp only [List.mem_singleton] at hq
        subst hq;simp only at h1 h2;omega
     ·have e:b=k:=by omega
      subst e;exact ⟨fun _=>⟨(b,b),by simp,by simp,by simp⟩,fun _=>hk⟩
  ·have hk':ohas s k=false:=by simpa using hk
   rw [if_neg hk];have hp1:prv s (k+1)=false:=by rw [MZ,hk']
   refine ⟨?_,ih.apart,?_,fun h=>(by rw [hp1] at h;cases h),?_⟩
   ·intro q hq;have:=ih.le q hq;omega
   ·intro b hb
    by_cases hbk:b < k
    ·exact ih.mem b hbk
    ·have e:b=k:=by omega
     subst e;rw [hk'];refine ⟨fun h=>(by cases h),?_⟩;rintro ⟨q,hq,h1,h2⟩;have:=ih.le q hq;omega
   ·intro _ q hq
    have:=ih.le q hq;omega
def Zw (s:OSet):List (Nat × Nat):=Ig s 256
theorem FO (lo:Nat) (k:Nat):∀ n,lo+n≤256→(CH lo n).getLsbD k=(decide (lo≤k) && decide (k < lo+n))
 | 0,_=>by
  simp only [CH,oz];by_cases h:lo≤k
  ·simp [h]
  ·simp [h]
 | n+1,hn=>by
  rw [CH,BitVec.getLsbD_or,FO lo k n (by omega),Jm _ _ (by omega)];by_cases h:lo≤k <;> by_cases h2:k < lo+n <;> by_cases h3:lo+n=k <;> simp [h,h2,h3] <;> omega
def unn (l:List (Nat × Nat)):OSet:=l.foldl (fun s p=>s ||| Ab p.1 p.2) oz
theorem Na (k:Nat):∀ (l:List (Nat × Nat)) (s:OSet),(∀ p∈l,p.1≤p.2∧p.2 < 256)→
  ((l.foldl (fun s p=>s ||| Ab p.1 p.2) s).getLsbD k=true ↔ s.getLsbD k=true∨∃ p∈l,p.1≤k∧k≤p.2)
 | [],s,_=>by simp
 | p :: l,s,h=>by
  have hp:=h p (by simp);rw [List.foldl_cons,Na k l _ (fun q hq=>h q (by simp [hq])),BitVec.getLsbD_or];unfold Ab;rw [Int.toNat_natCast,show ((p.2:Int) - (p.1:Int)+1).toNat=p.2+1 - p.1 by omega,FO _ _ _ (by omega)];simp only [Bool.or_eq_true,Bool.and_eq_true,decide_eq_true_eq,Ado];constructor
  ·rintro ((h1 | h1) | ⟨q,hq,h1⟩)
   ·exact Or.inl h1
   ·exact Or.inr ⟨p,Or.inl rfl,by omega,by omega⟩
   ·exact Or.inr ⟨q,Or.inr hq,h1⟩
  ·rintro (h1 | ⟨q,rfl | hq,h1⟩)
   ·exact Or.inl (Or.inl h1)
   ·exact Or.inl (Or.inr (by omega))
   ·exact Or.inr ⟨q,hq,h1⟩
theorem X9 (s:OSet):unn (Zw s)=s:=by
 have ok:=ZE s 256;refine BitVec.eq_of_getLsbD_eq fun k hk=>?_
 rw [Bool.eq_iff_iff];unfold unn;rw [Na k (Zw s) oz (fun p hp=>ok.le p hp)];have:=ok.mem k hk;unfold ohas at this;rw [this];simp [oz,Zw]
theorem XA (s:OSet) (h:Zw s=[]):s=oz:=by rw [←X9 s,h];rfl
theorem RI (s:OSet) (p:Nat × Nat) (l:List (Nat × Nat)) (h:Zw s=p :: l):p.1 < 256∧ohas s p.1=true∧∀ b,b < p.1→ohas s b=false:=by
 have ok:=ZE s 256;have e:Ig s 256=p :: l:=h;rw [e] at ok;have hp:=ok.le p (by simp);refine ⟨by omega,(ok.mem p.1 (by omega)).2 ⟨p,by simp,by omega,by omega⟩,fun b hb=>?_⟩;cases hx:ohas s b
 ·rfl
 ·exfalso
  obtain ⟨q,hq,h1,h2⟩:=(ok.mem b (by omega)).1 hx
  -- every span begins at p.1 or later
  have key:∀ i,∀ hi:i < (p :: l).length,p.1≤((p :: l)[i]'hi).1:=by
   intro i;induction i with
   | zero=>intro hi;exact Adf _
   | succ i ih=>
    intro hi;have h3:=ih (by omega);have h4:=ok.apart i hi;have h5:=ok.le _ (List.getElem_mem (l:=p :: l) (n:=i) (by omega));omega
  obtain ⟨i,hi,rfl⟩:=List.getElem_of_mem hq;have:=key i hi;omega
end
section
inductive Tr where
 | mk (kind:Int) (set:OSet) (mn mx num:Int) (kids:List Tr)
def Tr.kind:Tr→Int | .mk k _ _ _ _ _=>k
def Tr.set:Tr→OSet | .mk _ s _ _ _ _=>s
def Tr.mn:Tr→Int | .mk _ _ a _ _ _=>a
def Tr.mx:Tr→Int | .mk _ _ _ b _ _=>b
def Tr.num:Tr→Int | .mk _ _ _ _ c _=>c
def Tr.parts:Tr→List Tr | .mk _ _ _ _ _ ps=>ps
def tz:Tr:=.mk 0 oz 0 0 0 []
instance:Inhabited Tr:=⟨tz⟩
end
section
inductive Nd where
 | empty
 | one (s:OSet)
 | cat (l:List Nd)
 | alt (l:List Nd)
 | rep (d:Nd) (mn mx:Int)
 | group (num:Int) (d:Nd)
 | back (num:Int)
 | start
 | fin
instance:Inhabited Nd:=⟨.empty⟩
def Cf:Nd→List Nd
 | .cat l=>l
 | .alt l=>l
 | .rep d _ _=>[d]
 | .group _ d=>[d]
 | _=>[]
mutual
/-- How many nodes. -/
def Au:Nd→Nat
 | .cat l=>1+Ax l
 | .alt l=>1+Ax l
 | .rep d _ _=>1+Au d
 | .group _ d=>1+Au d
 | _=>1
def Ax:List Nd→Nat
 | []=>0
 | d :: ds=>Au d+Ax ds
end
mutual
/-- How many groups. -/
def Cm:Nd→Nat
 | .cat l=>Fq l
 | .alt l=>Fq l
 | .rep d _ _=>Cm d
 | .group _ d=>Cm d+1
 | _=>0
def Fq:List Nd→Nat
 | []=>0
 | d :: ds=>Cm d+Fq ds
end
mutual
/-- Are two the same? -/
def Da:Nd→Nd→Bool
 | .empty,.empty=>true
 | .one s,.one t=>decide (s=t)
 | .cat l,.cat m=>DN l m
 | .alt l,.alt m=>DN l m
 | .rep d a b,.rep e a' b'=>decide (a=a') && decide (b=b') && Da d e
 | .group n d,.group m e=>decide (n=m) && Da d e
 | .back n,.back m=>decide (n=m)
 | .start,.start=>true
 | .fin,.fin=>true
 | _,_=>false
def DN:List Nd→List Nd→Bool
 | [],[]=>true
 | d :: ds,e :: es=>Da d e && DN ds es
 | _,_=>false
end
def inCat:Nd→Bool
 | .empty=>false
 | .cat _=>false
 | .alt _=>false
 | _=>true
def inAlt:Nd→Bool
 | .alt _=>false
 | _=>true
def GF:Nd→Bool
 | .empty=>false
 | .start=>false
 | .fin=>false
 | .cat _=>false
 | .alt _=>false
 | _=>true
def Jp (mn mx:Int):Bool:=decide (0≤mn) && decide (mn≤255) && (decide (mx=-1) || (decide (mn≤mx) && decide (mx≤255)))
mutual
/-- Is a node right, when so many groups were opened, and these were closed? What was opened and closed then. -/
def Br:Nd→Int→List Int→Option (Int × List Int)
 | .cat l,o,c=>if decide (2≤l.length) && l.all inCat then BR l o c else none
 | .alt l,o,c=>if decide (2≤l.length) && l.all inAlt then BR l o c else none
 | .rep d mn mx,o,c=>if Jp mn mx && GF d then Br d o c else none
 | .group n d,o,c=>if n=o+1 then (Br d (o+1) c).map fun r=>(r.1,r.2++[n]) else none
 | .back n,o,c=>if c.contains n then some (o,c) else none
 | _,o,c=>some (o,c)
def BR:List Nd→Int→List Int→Option (Int × List Int)
 | [],o,c=>some (o,c)
 | d :: ds,o,c=>match Br d o c with
  | none=>none
  | some r=>BR ds r.1 r.2
end
theorem Jq (d:Nd):Au d=1+Ax (Cf d):=by cases d <;> simp [Au,Cf,Ax]
theorem Dp (a b:List Nd):Ax (a++b)=Ax a+Ax b:=by
 induction a with
 | nil=>simp [Ax]
 | cons t ts ih=>rw [List.cons_append,Ax,Ax,ih];omega
def IP:Nd→Bool
 | .group _ _=>true
 | _=>false
def ZF:Nd→Bool
 | .back _=>true
 | _=>false
theorem Gi (ps:List Nd):ps.length≤Ax ps:=by
 induction ps with
 | nil=>simp [Ax]
 | cons t ts ih=>have:=Jq t;rw [Ax,List.length_cons];omega
def E3:Nd→Nd→Bool
 | .empty,.empty=>true
 | .one s,.one t=>decide (s=t)
 | .cat _,.cat _=>true
 | .alt _,.alt _=>true
 | .rep _ a b,.rep _ a' b'=>decide (a=a') && decide (b=b')
 | .group n _,.group m _=>decide (n=m)
 | .back n,.back m=>decide (n=m)
 | .start,.start=>true
 | .fin,.fin=>true
 | _,_=>false
theorem OF (d e:Nd):Da d e=(E3 d e && DN (Cf d) (Cf e)):=by
 cases d <;> cases e <;> simp [Da,E3,Cf,DN]
theorem OG (l m:List Nd) (h:l.length≠m.length):DN l m=false:=by
 induction l generalizing m with
 | nil=>
  cases m with
  | nil=>simp at h
  | cons e es=>rfl
 | cons d ds ih=>
  cases m with
  | nil=>rfl
  | cons e es=>rw [DN,ih es (by simpa using h),Bool.and_false]
end
section
def Bk:Nd→List Nd
 | .empty=>[]
 | .cat l=>l
 | d=>[d]
def AO:Nd→List Nd
 | .alt l=>l
 | d=>[d]
def AF (l:List Nd):List Nd:=l.flatMap Bk
def AG (l:List Nd):List Nd:=l.flatMap AO
def Bs (l:List Nd):Nd:=match AF l with
 | []=>.empty
 | [d]=>d
 | ds=>.cat ds
def Cg (l:List Nd):Nd:=match AG l with
 | []=>.empty
 | [d]=>d
 | ds=>.alt ds
theorem KO (f:Nd→List Nd) (l:List Nd) (k:Nat) (h:k < l.length):(l.take (k+1)).flatMap f=(l.take k).flatMap f++f l[k]:=by
 rw [List.take_succ_eq_append_getElem h,List.flatMap_append];simp
theorem QL (f:Nd→List Nd) (l:List Nd) (k:Nat):((l.take k).flatMap f).length≤(l.flatMap f).length:=by
 have h:=congrArg List.length (congrArg (List.flatMap f) (List.take_append_drop k l));rw [List.flatMap_append,Adh] at h;omega
end
section
def E4 (d:Nd) (es:List Bool):Bool:=match d with
 | .cat l=>decide (2≤l.length) && l.all inCat
 | .alt l=>decide (2≤l.length) && l.all inAlt
 | .rep d mn mx=>Jp mn mx && GF d
 | .group n _=>decide (n=(es.length:Int)+1)
 | .back n=>decide (1≤n) && decide (n≤es.length) && es.getD (n - 1).toNat false
 | _=>true
end
section
mutual
/-- What comes of a node, and of nodes. -/
def Fl:Nd→List (Nd × Bool)
 | .cat l=>(.cat l,true) :: (Fm l++[(.cat l,false)])
 | .alt l=>(.alt l,true) :: (Fm l++[(.alt l,false)])
 | .rep d a b=>(.rep d a b,true) :: (Fl d++[(.rep d a b,false)])
 | .group n d=>(.group n d,true) :: (Fl d++[(.group n d,false)])
 | .empty=>[(.empty,true),(.empty,false)]
 | .one s=>[(.one s,true),(.one s,false)]
 | .back n=>[(.back n,true),(.back n,false)]
 | .start=>[(.start,true),(.start,false)]
 | .fin=>[(.fin,true),(.fin,false)]
def Fm:List Nd→List (Nd × Bool)
 | []=>[]
 | d :: ds=>Fl d++Fm ds
end
theorem E5 (d:Nd):Fl d=(d,true) :: (Fm (Cf d)++[(d,false)]):=by cases d <;> simp [Fl,Cf,Fm]
mutual
theorem EP:∀ d:Nd,(Fl d).length=2 * Au d
 | .cat l=>by have:=Jr l;simp [Fl,Au,this];omega
 | .alt l=>by have:=Jr l;simp [Fl,Au,this];omega
 | .rep d _ _=>by have:=EP d;simp [Fl,Au,this];omega
 | .group _ d=>by have:=EP d;simp [Fl,Au,this];omega
 | .empty=>rfl
 | .one _=>rfl
 | .back _=>rfl
 | .start=>rfl
 | .fin=>rfl
theorem Jr:∀ l:List Nd,(Fm l).length=2 * Ax l
 | []=>rfl
 | d :: ds=>by have:=EP d;have:=Jr ds;simp [Fm,Ax, *];omega
end
def IS:List (Nd × List Nd)→List (Nd × Bool)
 | []=>[]
 | x :: s=>IS s++(Fm x.2++[(x.1,false)])
theorem CI (s:List (Nd × List Nd)) (d:Nd) (r:List Nd):IS (s++[(d,r)])=Fm r++((d,false) :: IS s):=by
 induction s with
 | nil=>simp [IS]
 | cons x s ih=>rw [List.cons_append,IS,ih,IS];simp
theorem QM (s:List (Nd × List Nd)):s.length≤(IS s).length:=by
 induction s with
 | nil=>simp
 | cons x s ih=>rw [IS];simp;omega
end
section
def XB:Nd→Int
 | .group n _=>n
 | _=>0
inductive RS where
 | no
 | bad
 | ok (es:List Bool)
def rs (s:RS) (x:Nd × Bool):RS:=match s with
 | .ok es=>if x.2 then (if E4 x.1 es then .ok (if IP x.1 then es++[false] else es) else .no)
  else if IP x.1 then (if 1≤XB x.1∧XB x.1≤(es.length:Int) then .ok (es.set (XB x.1 - 1).toNat true) else .bad) else .ok es
 | .no=>.no
 | .bad=>.bad
def Ud (s:RS) (l:List (Nd × Bool)):RS:=l.foldl rs s
theorem DO (s:RS) (l m:List (Nd × Bool)):Ud s (l++m)=Ud (Ud s l) m:=by unfold Ud;rw [List.foldl_append]
theorem Cj (s:RS) (x:Nd × Bool) (l:List (Nd × Bool)):Ud s (x :: l)=Ud (rs s x) l:=rfl
theorem DP (l:List (Nd × Bool)):Ud .no l=.no:=by
 induction l with
 | nil=>rfl
 | cons x l ih=>rw [Cj];exact ih
def RR (es:List Bool) (o:Int) (c:List Int):Prop:=o=(es.length:Int)∧∀ n:Int,c.contains n=(decide (1≤n) && decide (n≤(es.length:Int)) && es.getD (n - 1).toNat false)
def ROk (es:List Bool) (s:RS) (r:Option (Int × List Int)):Prop:=match r with
 | none=>s=.no
 | some q=>∃ es',s=.ok es'∧RR es' q.1 q.2∧es.length≤es'.length
theorem E6 {es:List Bool} {o:Int} {c:List Int} (h:RR es o c):ROk es (.ok es) (some (o,c)):=⟨es,rfl,h,Adf _⟩
theorem Fr {d:Nd} {es:List Bool} (h:E4 d es=false):rs (.ok es) (d,true)=.no:=by simp [rs,h]
theorem QN {d:Nd} {es:List Bool} (h:E4 d es=true) (hg:IP d=false):rs (.ok es) (d,true)=.ok es:=by simp [rs,h,hg]
theorem LH {d:Nd} (s:RS) (hg:IP d=false):rs s (d,false)=s:=by cases s <;> simp [rs,hg]
theorem LI {es:List Bool} {o:Int} {c:List Int} (h:RR es o c):RR (es++[false]) (o+1) c:=by
 obtain ⟨h1,h2⟩:=h;refine ⟨by simp;omega,fun n=>?_⟩;rw [h2 n];by_cases hn:n≤(es.length:Int)
 ·by_cases hn1:1≤n
  ·rw [List.getD_eq_getElem?_getD,List.getD_eq_getElem?_getD,List.getElem?_append_left (by omega)]
   rw [decide_eq_true hn,decide_eq_true (show n≤((es++[false]).length:Int) by simp;omega)]
  ·simp [hn1]
 ·by_cases hn1:n=(es.length:Int)+1
  ·subst hn1
   simp
  ·simp [hn]
   intro _ hh;omega
theorem Nb {es:List Bool} {o:Int} {c:List Int} (h:RR es o c) {n:Int} (h1:1≤n) (h2:n≤(es.length:Int)):RR (es.set (n - 1).toNat true) o (c++[n]):=by
 obtain ⟨g1,g2⟩:=h;refine ⟨by simpa using g1,fun m=>?_⟩;have hc:(c++[n]).contains m=(c.contains m || (m == n)):=by
  simp;rfl
 rw [hc,g2 m,List.length_set];by_cases hm:m=n
 ·subst hm
  rw [decide_eq_true h1,decide_eq_true h2,@List.getD_eq_getElem?_getD _ (es.set (m - 1).toNat true),List.getElem?_set_self (by omega)];simp
 ·have hne:(n - 1).toNat≠(m - 1).toNat∨¬ 1≤m:=by omega
  rw [beq_eq_false_iff_ne.2 hm,Bool.or_false];rcases hne with hne | hne
  ·rw [List.getD_eq_getElem?_getD,List.getD_eq_getElem?_getD,List.getElem?_set_ne hne]
  ·simp [hne]
mutual
theorem FP:∀ (d:Nd) (es:List Bool) (o:Int) (c:List Int),RR es o c→ROk es (Ud (.ok es) (Fl d)) (Br d o c)
 | .cat l,es,o,c,h=>by
  rw [Fl,Cj,DO,Br];cases hf:decide (2≤l.length) && l.all inCat
  ·rw [Fr (show E4 (.cat l) es=false from hf),DP,DP];rfl
  ·rw [QN (show E4 (.cat l) es=true from hf) rfl,Cj,LH _ rfl]
   exact Gr l es o c h
 | .alt l,es,o,c,h=>by
  rw [Fl,Cj,DO,Br];cases hf:decide (2≤l.length) && l.all inAlt
  ·rw [Fr (show E4 (.alt l) es=false from hf),DP,DP];rfl
  ·rw [QN (show E4 (.alt l) es=true from hf) rfl,Cj,LH _ rfl]
   exact Gr l es o c h
 | .rep d mn mx,es,o,c,h=>by
  rw [Fl,Cj,DO,Br];cases hf:Jp mn mx && GF d
  ·rw [Fr (show E4 (.rep d mn mx) es=false from hf),DP,DP];rfl
  ·rw [QN (show E4 (.rep d mn mx) es=true from hf) rfl,Cj,LH _ rfl]
   exact FP d es o c h
 | .group n d,es,o,c,h=>by
  rw [Fl,Cj,DO,Br];by_cases hn:n=o+1
  ·rw [if_pos hn]
   have hf:E4 (.group n d) es=true:=decide_eq_true (by rw [hn,h.1]);have hi:rs (.ok es) (.group n d,true)=.ok (es++[false]):=by simp [rs,hf,IP]
   rw [hi];have ih:=FP d (es++[false]) (o+1) c (LI h);cases hr:Br d (o+1) c with
   | none=>
    rw [hr] at ih;rw [show Ud (.ok (es++[false])) (Fl d)=.no from ih,DP];rfl
   | some q=>
    rw [hr] at ih;obtain ⟨es',h1,h2,h3⟩:=ih;rw [h1,Cj];simp at h3;have hlo:1≤n:=by have:=h.1;omega
    have hhi:n≤(es'.length:Int):=by have:=h.1;omega
    have ho:rs (.ok es') (.group n d,false)=.ok (es'.set (n - 1).toNat true):=by simp [rs,IP,XB,hlo,hhi]
    rw [ho];exact ⟨_,rfl,Nb h2 hlo hhi,by rw [List.length_set];omega⟩
  ·rw [if_neg hn]
   have hf:E4 (.group n d) es=false:=decide_eq_false (by rw [←h.1];exact hn);rw [Fr hf,DP,DP];rfl
 | .back n,es,o,c,h=>by
  rw [Fl,Cj,Br,h.2 n];cases hf:(decide (1≤n) && decide (n≤(es.length:Int)) && es.getD (n - 1).toNat false)
  ·rw [Fr (show E4 (.back n) es=false from hf),DP];rfl
  ·rw [QN (show E4 (.back n) es=true from hf) rfl,Cj,LH _ rfl]
   exact E6 h
 | .empty,es,o,c,h=>E6 h
 | .one _,es,o,c,h=>E6 h
 | .start,es,o,c,h=>E6 h
 | .fin,es,o,c,h=>E6 h
theorem Gr:∀ (l:List Nd) (es:List Bool) (o:Int) (c:List Int),RR es o c→ROk es (Ud (.ok es) (Fm l)) (BR l o c)
 | [],es,o,c,h=>E6 h
 | d :: ds,es,o,c,h=>by
  rw [Fm,DO,BR];have ih:=FP d es o c h;cases hr:Br d o c with
  | none=>
   rw [hr] at ih;rw [show Ud (.ok es) (Fl d)=.no from ih,DP];rfl
  | some q=>
   rw [hr] at ih;obtain ⟨es',h1,h2,h3⟩:=ih;rw [h1];have ih2:=Gr ds es' q.1 q.2 h2;show ROk es _ (BR ds q.1 q.2);cases hr2:BR ds q.1 q.2 with
   | none=>rw [hr2] at ih2;exact ih2
   | some q2=>
    rw [hr2] at ih2;obtain ⟨es2,g1,g2,g3⟩:=ih2;exact ⟨es2,g1,g2,Adg h3 g3⟩
end
theorem ZG:RR [] 0 []:=⟨rfl,fun n=>by
 by_cases h1:1≤n
 ·have h2:decide (n≤(([]:List Bool).length:Int))=false:=decide_eq_false (by simp;omega)
  rw [h2];simp
 ·rw [decide_eq_false h1];rfl⟩
end
section
theorem Fs (d:Nd) (o:Int) (c:List Int):BR [d] o c=Br d o c:=by
 rw [BR];cases Br d o c with
 | none=>rfl
 | some r=>rfl
theorem Js (l m:List Nd) (o:Int) (c:List Int):BR (l++m) o c=(BR l o c).bind fun r=>BR m r.1 r.2:=by
 induction l generalizing o c with
 | nil=>rfl
 | cons d ds ih=>
  rw [List.cons_append,BR,BR];cases Br d o c with
  | none=>rfl
  | some r=>exact ih r.1 r.2
end
section
theorem LJ (d:Nd):Ax (Bk d)≤Au d:=by cases d <;> simp [Bk,Au,Ax]
theorem LK (d:Nd):Ax (AO d)≤Au d:=by cases d <;> simp [AO,Au,Ax]
mutual
theorem DQ:∀ d:Nd,Da d d=true
 | .cat l=>Fu l
 | .alt l=>Fu l
 | .rep d a b=>by simp [Da,DQ d]
 | .group n d=>by simp [Da,DQ d]
 | .one s=>by simp [Da]
 | .back n=>by simp [Da]
 | .empty=>rfl
 | .start=>rfl
 | .fin=>rfl
theorem Fu:∀ l:List Nd,DN l l=true
 | []=>rfl
 | d :: ds=>by rw [DN,DQ d,Fu ds];rfl
end
end
section
def Db (b:UInt8):List UInt8:=if b.toNat < 128 then [b] else [UInt8.ofNat (192+b.toNat / 64),UInt8.ofNat (128+b.toNat % 64)]
def Ao (l:List UInt8):List UInt8:=l.flatMap Db
theorem OH (b:UInt8):UInt8.ofNat b.toNat=b:=by simp
theorem I7 (n:Nat) (h:n < 256):(UInt8.ofNat n).toNat=n:=by simp;omega
theorem OI (b:UInt8) (l:List UInt8):Ao (b :: l)=Db b++Ao l:=by simp [Ao]
theorem Jt (l:List UInt8) (b:UInt8):Ao (l++[b])=Ao l++Db b:=by simp [Ao]
theorem KP (b:UInt8):1≤(Db b).length∧(Db b).length≤2:=by unfold Db;split <;> simp
theorem KQ:∀ l:List UInt8,(Ao l).length≤2 * l.length
 | []=>by simp [Ao]
 | b :: l=>by have h:=KQ l;have:=KP b;rw [OI,Adh,List.length_cons];omega
theorem RJ:∀ n:Fin 256,Lib.encodeRune (n.val:Int)=Db (UInt8.ofNat n.val):=by decide +kernel
theorem RK (b:UInt8):Lib.encodeRune (b.toNat:Int)=Db b:=by
 have h:=RJ ⟨b.toNat,b.toNat_lt⟩;simp only [OH] at h;exact h
/-- Decoding by the list's own bytes. -/
theorem GG (s:ByteArray) (i:Nat):s.data.toList.getD i 0=s.get! i:=by
 cases s with
 | mk d=>
  show d.toList.getD i 0=d[i]!;by_cases h:i < d.size
  ·rw [getElem!_pos d i h];simp [List.getD,h]
  ·rw [getElem!_neg d i h];simp [List.getD,h];rfl
theorem Ad (s:ByteArray):s.size=s.data.toList.length:=rfl
theorem Ep (s:ByteArray) (pos:Nat):Utf8.decode s pos=Lib.decodeN (s.data.toList.length - pos) (s.data.toList.getD pos 0).toNat (s.data.toList.getD (pos+1) 0).toNat (s.data.toList.getD (pos+2) 0).toNat (s.data.toList.getD (pos+3) 0).toNat:=by
 rw [Lib.decode_at,←GG,←GG,←GG,←GG,Ad]
theorem I8 (n b c d e:Nat) (h:b < 128):Lib.decodeN n b c d e=(b,1):=by rw [Lib.decodeN,if_pos h]
theorem Nc (n b c d e:Nat) (hn:1 < n) (h:b=194∨b=195) (h1:128≤c) (h2:c < 192):Lib.decodeN n b c d e=((b - 192) * 64+c - 128,2):=by
 rw [Lib.decodeN,if_neg (by omega),if_pos (by omega),if_pos (by omega)];refine Prod.ext ?_ rfl;simp only;omega
def txt (l:List UInt8):ByteArray:=⟨l.toArray⟩
theorem CJ (l:List UInt8):(txt l).size=l.length:=by simp [txt,ByteArray.size]
theorem DR (l:List UInt8):(txt l).data.toList=l:=rfl
theorem ZH (s:ByteArray):txt s.data.toList=s:=by cases s;rfl
/-- Decoding a wide text: the sign of the byte that stands there. -/
theorem Nf (a:List UInt8) (b:UInt8) (c:List UInt8) :
  Utf8.decode (txt (Ao a++(Db b++Ao c))) (Ao a).length=(b.toNat,(Db b).length):=by
 rw [Ep,DR];have hb:=b.toNat_lt;have g:∀ k,(Ao a++(Db b++Ao c)).getD ((Ao a).length+k) 0=(Db b++Ao c).getD k 0:=by
  intro k;simp only [List.getD];rw [List.getElem?_append_right (by omega),show (Ao a).length+k - (Ao a).length=k by omega]
 have g0:=g 0;rw [Nat.add_zero] at g0;rw [g0,g 1,g 2,g 3,Adh,Adh];unfold Db;by_cases hl:b.toNat < 128
 ·rw [if_pos hl]
  simp only [List.cons_append,List.nil_append,List.getD_cons_zero];rw [I8 _ _ _ _ _ hl];rfl
 ·rw [if_neg hl]
  simp only [List.cons_append,List.nil_append,List.getD_cons_zero,List.getD_cons_succ,List.length_cons,List.length_nil];have e1:(UInt8.ofNat (192+b.toNat / 64)).toNat=192+b.toNat / 64:=I7 _ (by omega);have e2:(UInt8.ofNat (128+b.toNat % 64)).toNat=128+b.toNat % 64:=I7 _ (by omega);rw [Nc _ _ _ _ _ (by omega) (by rw [e1];omega) (by rw [e2];omega) (by rw [e2];omega),e1,e2];refine Prod.ext ?_ rfl;simp only;omega
end
section
def AH (p:UInt8→Bool) (l:List UInt8):Nat:=(l.takeWhile p).length
theorem Ih (p:UInt8→Bool):AH p []=0:=rfl
theorem Cc {p:UInt8→Bool} {c:UInt8} {l:List UInt8} (h:p c=true):AH p (c :: l)=AH p l+1:=by simp [AH,h]
theorem Cu {p:UInt8→Bool} {c:UInt8} {l:List UInt8} (h:p c=false):AH p (c :: l)=0:=by simp [AH,h]
theorem Bt (p:UInt8→Bool):∀ l,AH p l≤l.length
 | []=>Adf _
 | c :: l=>by
  cases h:p c with
  | true=>rw [Cc h];have:=Bt p l;simp;omega
  | false=>rw [Cu h];omega
theorem Ju (p:UInt8→Bool):∀ l:List UInt8,l.dropWhile p=l.drop (AH p l)
 | []=>rfl
 | c :: l=>by
  cases h:p c with
  | true=>rw [Cc h,List.dropWhile_cons,h];simp [Ju p l]
  | false=>rw [Cu h,List.dropWhile_cons,h];simp
theorem GH (p:UInt8→Bool):∀ (l:List UInt8) (j:Nat) b,j < AH p l→l[j]?=some b→p b=true
 | [],j,b,h,_=>by simp [Ih] at h
 | c :: l,j,b,h,hb=>by
  cases hc:p c with
  | false=>rw [Cu hc] at h;omega
  | true=>
   rw [Cc hc] at h;cases j with
   | zero=>simp at hb;rw [←hb];exact hc
   | succ j=>exact GH p l j b (by omega) (by simpa using hb)
theorem Bh (s:ByteArray) (k:Nat) (h:k < s.size):s.data.toList.drop k=s[k] :: s.data.toList.drop (k+1):=by
 rw [List.drop_eq_getElem_cons (by simpa using h)];rfl
theorem Bl (s:ByteArray) (k:Nat) (h:s.size≤k):s.data.toList.drop k=[]:=List.drop_eq_nil_of_le (by rw [←Ad];exact h)
theorem GI (p:UInt8→Bool) (s:ByteArray) (k:Nat) (hk:k≤s.size):k+AH p (s.data.toList.drop k)≤s.size:=by
 have:=Bt p (s.data.toList.drop k);rw [List.length_drop,←Ad] at this;omega
def EQ (cs:List UInt8) (l:List UInt8):Nat:=AH (fun b=>cs.contains b) l
theorem RL (cs l:List UInt8):(Lib.trimLeftS l cs).length+EQ cs l=l.length:=by
 unfold Lib.trimLeftS EQ;rw [Ju,List.length_drop];have:=Bt (fun b=>cs.contains b) l;omega
def Cv (cs L:List UInt8) (at':Int):Nat:=if 0≤at'∧at'≤L.length then at'.toNat+EQ cs (L.drop at'.toNat) else 0
theorem Du (cs L:List UInt8) (k:Nat) (h:k≤L.length):Cv cs L k=k+EQ cs (L.drop k):=by
 unfold Cv;rw [if_pos (by omega)];simp
theorem I9 (cs L:List UInt8) (at':Int) (h:¬ (0≤at'∧at'≤L.length)):Cv cs L at'=0:=by
 unfold Cv;rw [if_neg h]
abbrev Er:=List UInt8 × Nat × Nat
def ZI {α:Type} (L:List UInt8) (at':Int) (z:α) (f:Nat→α):α:=if 0≤at'∧at'≤L.length then f at'.toNat else z
theorem Dq {α:Type} (L:List UInt8) (k:Nat) (z:α) (f:Nat→α) (h:k≤L.length):ZI L k z f=f k:=by unfold ZI;rw [if_pos (by omega)];simp
def A2:List UInt8:=[48,49,50,51,52,53,54,55,56,57]
theorem DB (b:UInt8):A2.contains b=(decide (48≤b.toNat) && decide (b.toNat≤57)):=by
 have h:∀ b:Fin 256,A2.contains (UInt8.ofNat b.val)=(decide (48≤(UInt8.ofNat b.val).toNat) && decide ((UInt8.ofNat b.val).toNat≤57)):=by decide +kernel
 have:=h ⟨b.toNat,b.toNat_lt⟩;simpa using this
def E7 (l:List UInt8):Nat:=l.foldl (fun n b=>n * 10+(b.toNat - 48)) 0
theorem OJ (l:List UInt8) (b:UInt8):E7 (l++[b])=E7 l * 10+(b.toNat - 48):=by simp [E7]
theorem Jv:∀ (l:List UInt8) (n:Nat),(∀ b∈l,A2.contains b=true)→l.foldl (fun n b=>n * 10+(b.toNat - 48)) n < (n+1) * 10 ^ l.length
 | [],n,_=>by simp
 | b :: l,n,h=>by
  have hb:=h b (by simp);rw [DB] at hb;simp at hb;have ih:=Jv l (n * 10+(b.toNat - 48)) (fun x hx=>h x (by simp [hx]));rw [List.foldl_cons,List.length_cons,Nat.pow_succ];have h2:(n * 10+(b.toNat - 48)+1) * 10 ^ l.length≤((n+1) * 10) * 10 ^ l.length:=Nat.mul_le_mul_right _ (by omega);rw [Nat.mul_assoc,Nat.mul_comm 10] at h2;omega
theorem Ue (l:List UInt8) (h:∀ b∈l,A2.contains b=true):E7 l < 10 ^ l.length:=by
 have:=Jv l 0 h;unfold E7;omega
theorem OK (l:List UInt8) (h:∀ b∈l,A2.contains b=true) (h9:l.length≤9):E7 l < 1000000000:=by
 have h1:=Ue l h;have h2:10 ^ l.length≤10 ^ 9:=Nat.pow_le_pow_right (by omega) h9;omega
def Bu (L:List UInt8) (k:Nat):Nat × Nat × Nat:=
 let n:=EQ A2 (L.drop k)
 if n=0 then (0,k,2) else if 9 < n then (0,k,3) else (E7 ((L.drop k).take n),k+n,0)
def Bw:List UInt8→Nat→List UInt8→Er
 | [],p,acc=>(acc++[10],p,0)
 | [c],p,acc=>if c=10 then (acc++[10],p+1,0) else if c=92 then ([],p,11) else (acc++[c]++[10],p+1,0)
 | c :: x :: u,p,acc=>if c=10 then (acc++[10],p+1,0) else if c=92 then Bw u (p+2) (acc++[x]) else Bw (x :: u) (p+1) (acc++[c])
theorem DS (t:List UInt8) (p:Nat) (acc:List UInt8):Bw (10 :: t) p acc=(acc++[10],p+1,0):=by cases t <;> simp [Bw]
theorem DT (x:UInt8) (u:List UInt8) (p:Nat) (acc:List UInt8):Bw (92 :: x :: u) p acc=Bw u (p+2) (acc++[x]):=by simp [Bw]
theorem Dh (p:Nat) (acc:List UInt8):Bw [92] p acc=([],p,11):=by simp [Bw]
theorem C6 (c:UInt8) (t:List UInt8) (p:Nat) (acc:List UInt8) (h1:¬ c=10) (h2:¬ c=92):Bw (c :: t) p acc=Bw t (p+1) (acc++[c]):=by
 cases t <;> simp [Bw,h1,h2]
def ER (label:Bool) (b:UInt8):Bool:=b == 10 || (label && b == 59)
def DU (label:Bool) (l:List UInt8):Nat:=AH (fun b=>!ER label b) l
def DV (n:List UInt8) (k e:Nat):Er:=if n=[] then ([],k,14) else if 40 < n.length then ([],k,3) else (n,e,0)
def Bm (L:List UInt8) (k:Nat) (label:Bool):Er:=
 DV (Lib.trimS ((L.drop k).take (DU label (L.drop k))) [32,9]) k (k+DU label (L.drop k))
def Dv (c:UInt8) (l:List UInt8):Nat:=match l with | []=>0 | x :: _=>if x=c then 1 else 0
def Bx (t:List UInt8):Nat:=Dv 94 t+Dv 93 (t.drop (Dv 94 t))
def BW (t:List UInt8):Nat:=1+Bx t+min (AH (fun b=>!(b == 93)) (t.drop (Bx t))+1) (t.drop (Bx t)).length
def AV (d:UInt8) (rx:Bool) (c:UInt8) (t:List UInt8) (p:Nat):Er:=
 if c=92 then
  match t with
  | []=>([],p+1,5)
  | x :: _=>if x=d then ([x],p+2,0) else if (x == 10 && rx)=true then ([],p+1,2) else ([92,x],p+2,0)
 else
  let k:=if (rx && c == 91)=true then BW t else 1
  let i:=AH (fun b=>!(b == 10)) ((c :: t).take k)
  if i < k then ([],p+i,2) else ((c :: t).take k,p+k,0)
def Ch (d:UInt8) (rx:Bool) (L:List UInt8):Nat→Nat→List UInt8→Er
 | 0,_,_=>([],L.length,5)
 | n+1,p,acc=>
  match L.drop p with
  | []=>([],L.length,5)
  | c :: t=>if c=d then (acc,p+1,0) else if (AV d rx c t p).2.2=0 then Ch d rx L n (AV d rx c t p).2.1 (acc++(AV d rx c t p).1) else AV d rx c t p
theorem Di {d:UInt8} {rx:Bool} {L:List UInt8} {n p:Nat} {acc:List UInt8} (h:L.drop p=[]):Ch d rx L (n+1) p acc=([],L.length,5):=by rw [Ch,h]
theorem Dj {d:UInt8} {rx:Bool} {L t:List UInt8} {n p:Nat} {acc:List UInt8} (h:L.drop p=d :: t):Ch d rx L (n+1) p acc=(acc,p+1,0):=by rw [Ch,h];simp
theorem C7 {d c:UInt8} {rx:Bool} {L t x:List UInt8} {n p k:Nat} {acc:List UInt8} (h:L.drop p=c :: t) (hc:¬ c=d) (hp:AV d rx c t p=(x,k,0)):Ch d rx L (n+1) p acc=Ch d rx L n k (acc++x):=by rw [Ch,h];simp [hc,hp]
theorem DK {d c:UInt8} {rx:Bool} {L t x:List UInt8} {n p k e:Nat} {acc:List UInt8} (h:L.drop p=c :: t) (hc:¬ c=d) (he:¬ e=0) (hp:AV d rx c t p=(x,k,e)):Ch d rx L (n+1) p acc=(x,k,e):=by rw [Ch,h];simp [hc,hp,he]
theorem GJ (c:UInt8) (l:List UInt8):Dv c l≤l.length:=by
 unfold Dv;split
 ·simp
 ·split <;> simp
theorem Gs (t:List UInt8):Bx t≤t.length:=by
 have h1:=GJ 94 t;have h2:=GJ 93 (t.drop (Dv 94 t));rw [List.length_drop] at h2;unfold Bx;omega
theorem Jw (t:List UInt8):BW t≤t.length+1:=by
 have h1:=Gs t;have h2:(t.drop (Bx t)).length=t.length - Bx t:=List.length_drop;unfold BW;omega
theorem KR (t:List UInt8):1≤BW t:=by unfold BW;omega
theorem E8 {d c:UInt8} {rx:Bool} {t x:List UInt8} {p k:Nat} (h:AV d rx c t p=(x,k,0)):p < k∧k≤p+1+t.length∧x.length≤k - p:=by
 unfold AV at h;split at h
 ·split at h
  ·simp at h
  ·split at h
   ·simp at h;obtain ⟨rfl,rfl⟩:=h;simp;try omega
   ·split at h
    ·simp at h
    ·simp at h;obtain ⟨rfl,rfl⟩:=h;simp;try omega
 ·simp only at h
  have hb:1≤(if (rx && c == 91)=true then BW t else 1)∧(if (rx && c == 91)=true then BW t else 1)≤t.length+1:=by
   split
   ·exact ⟨KR t,Jw t⟩
   ·omega
  generalize (if (rx && c == 91)=true then BW t else 1)=k' at h hb;split at h
  ·simp at h
  ·simp only [Prod.mk.injEq,and_true] at h
   obtain ⟨rfl,rfl⟩:=h;have:=List.length_take_le k' (c :: t);omega
theorem Gt {d c:UInt8} {rx:Bool} {t x:List UInt8} {p k e:Nat} (h:AV d rx c t p=(x,k,e)) (he:¬ e=0):x=[]∧k≤p+1+t.length∧(e=2∨e=5):=by
 unfold AV at h;split at h
 ·split at h
  ·simp at h;obtain ⟨rfl,rfl,rfl⟩:=h;simp
  ·split at h
   ·simp at h;omega
   ·split at h
    ·simp at h;obtain ⟨rfl,rfl,rfl⟩:=h;simp;try omega
    ·simp at h;omega
 ·simp only at h
  have hb:(if (rx && c == 91)=true then BW t else 1)≤t.length+1:=by
   split
   ·exact Jw t
   ·omega
  generalize (if (rx && c == 91)=true then BW t else 1)=k' at h hb;split at h
  ·simp only [Prod.mk.injEq] at h
   obtain ⟨rfl,rfl,rfl⟩:=h;simp;try omega
  ·simp only [Prod.mk.injEq] at h
   omega
theorem FQ:∀ (l:List UInt8) (c:UInt8),Lib.indexByte l c=if AH (fun b=>!(b == c)) l < l.length then (AH (fun b=>!(b == c)) l:Int) else -1
 | [],c=>by simp [Lib.indexByte,Ih]
 | b :: l,c=>by
  rw [Lib.indexByte];cases h:(b == c) with
  | true=>rw [Cu (by simp [h])];rfl
  | false=>
   rw [Cc (by simp [h]),FQ l c];simp only [List.length_cons,Bool.false_eq_true,if_false];have:=Bt (fun b=>!(b == c)) l;by_cases h1:AH (fun b=>!(b == c)) l < l.length
   ·rw [if_pos h1,if_neg (by simp),if_pos (by omega)];simp
   ·rw [if_neg h1,if_pos (by simp),if_neg (by omega)]
theorem GK (cs:List UInt8):∀ l:List UInt8,Lib.indexAny l cs=if AH (fun b=>!cs.contains b) l < l.length then (AH (fun b=>!cs.contains b) l:Int) else -1
 | []=>by simp [Lib.indexAny,Ih]
 | b :: l=>by
  rw [Lib.indexAny];cases h:cs.contains b with
  | true=>rw [Cu (p:=fun b=>!cs.contains b) (by rw [h];rfl)];simp
  | false=>
   rw [Cc (p:=fun b=>!cs.contains b) (by rw [h];rfl),GK cs l];simp only [List.length_cons,Bool.false_eq_true,if_false];have:=Bt (fun b=>!cs.contains b) l;by_cases h1:AH (fun b=>!cs.contains b) l < l.length
   ·rw [if_pos h1,if_neg (by simp),if_pos (by omega)];simp
   ·rw [if_neg h1,if_pos (by simp),if_neg (by omega)]
def Aj (L:List UInt8) (a:Int) (d:UInt8) (rx:Bool):Er:=ZI L a ([],0,1) fun k=>Ch d rx L (L.length+1) k []
end
section
open Go.RowKit Go.Shelf
set_option linter.unusedVariables false
def QO:Go.Shelf.Ren:=⟨fun | 119=>113 | 137=>112 | 151=>82 | 152=>98 | 161=>39 | 197=>81 | 217=>54 | 224=>56 | 225=>55 | 227=>59 | 228=>80 | 231=>58 | 233=>60 | 235=>61 | 260=>97 | 266=>78 | n=>n,fun | 0=>0 | 3=>3 | 4=>4 | 5=>5 | 9=>9 | 21=>21 | 46=>125 | 105=>154 | 116=>128 | 117=>129 | 119=>181 | 124=>132 | 138=>194 | 139=>195 | n=>n,fun | 3=>1 | 4=>2 | n=>n⟩
theorem QP:Go.Proofs.Lays.n161 Tryz.prog QO:={
 mixed:=by kernel_rfl
 f119:=Tryz.func113.trans (congrArg some (by kernel_rfl))
 f137:=Tryz.func112.trans (congrArg some (by kernel_rfl))
 f151:=Tryz.func82.trans (congrArg some (by kernel_rfl))
 f152:=Tryz.func98.trans (congrArg some (by kernel_rfl))
 f161:=Tryz.func39.trans (congrArg some (by kernel_rfl))
 f197:=Tryz.func81.trans (congrArg some (by kernel_rfl))
 f217:=Tryz.func54.trans (congrArg some (by kernel_rfl))
 f224:=Tryz.func56.trans (congrArg some (by kernel_rfl))
 f225:=Tryz.func55.trans (congrArg some (by kernel_rfl))
 f227:=Tryz.func59.trans (congrArg some (by kernel_rfl))
 f228:=Tryz.func80.trans (congrArg some (by kernel_rfl))
 f231:=Tryz.func58.trans (congrArg some (by kernel_rfl))
 f233:=Tryz.func60.trans (congrArg some (by kernel_rfl))
 f235:=Tryz.func61.trans (congrArg some (by kernel_rfl))
 f260:=Tryz.func97.trans (congrArg some (by kernel_rfl))
 f266:=Tryz.func78.trans (congrArg some (by kernel_rfl))
 t0:=Tryz.underlying0
 a0:=Tryz.isAgg0
 z0:=Tryz.sizeOf0
 v0:=Tryz.zeroValue0
 t3:=Tryz.underlying3
 a3:=Tryz.isAgg3
 z3:=Tryz.sizeOf3
 v3:=Tryz.zeroValue3
 t4:=Tryz.underlying4
 a4:=Tryz.isAgg4
 z4:=Tryz.sizeOf4
 v4:=Tryz.zeroValue4
 t5:=Tryz.underlying5
 a5:=Tryz.isAgg5
 z5:=Tryz.sizeOf5
 v5:=Tryz.zeroValue5
 t9:=Tryz.underlying9
 a9:=Tryz.isAgg9
 z9:=Tryz.sizeOf9
 v9:=Tryz.zeroValue9
 t21:=Tryz.underlying21
 a21:=Tryz.isAgg21
 z21:=Tryz.sizeOf21
 v21:=Tryz.zeroValue21
 t46:=Tryz.underlying125
 a46:=Tryz.isAgg125
 z46:=Tryz.sizeOf125
 v46:=Tryz.zeroValue125
 t105:=Tryz.underlying154
 a105:=Tryz.isAgg154
 z105:=Tryz.sizeOf154
 v105:=Tryz.zeroValue154
 t116:=Tryz.underlying128
 a116:=Tryz.isAgg128
 z116:=Tryz.sizeOf128
 t117:=Tryz.underlying129
 a117:=Tryz.isAgg129
 z117:=Tryz.sizeOf129
 v117:=Tryz.zeroValue129
 t119:=Tryz.underlying181
 a119:=Tryz.isAgg181
 z119:=Tryz.sizeOf181
 t124:=Tryz.underlying132
 a124:=Tryz.isAgg132
 z124:=Tryz.sizeOf132
 v124:=Tryz.zeroValue132
 t138:=Tryz.underlying194
 a138:=Tryz.isAgg194
 z138:=Tryz.sizeOf194
 v138:=Tryz.zeroValue194
 t139:=Tryz.underlying195
 a139:=Tryz.isAgg195
 z139:=Tryz.sizeOf195
 v139:=Tryz.zeroValue195
 g3:=by kernel_rfl
 g4:=by kernel_rfl
}
def XC:Go.Shelf.Ren:=⟨fun | 119=>113 | 120=>139 | 137=>112 | 151=>82 | 152=>98 | 160=>86 | 197=>81 | 217=>54 | 224=>56 | 225=>55 | 227=>59 | 228=>80 | 231=>58 | 232=>103 | 233=>60 | 234=>104 | 235=>61 | 236=>105 | 260=>97 | 266=>78 | 271=>120 | n=>n,fun | 0=>0 | 3=>3 | 4=>4 | 5=>5 | 9=>9 | 21=>21 | 46=>125 | 105=>154 | 116=>128 | 117=>129 | 119=>181 | 124=>132 | 138=>194 | 139=>195 | n=>n,fun | 3=>1 | 4=>2 | n=>n⟩
theorem XD:Go.Proofs.Lays.n160 Tryz.prog XC:={
 mixed:=by kernel_rfl
 f119:=Tryz.func113.trans (congrArg some (by kernel_rfl))
 f120:=Tryz.func139.trans (congrArg some (by kernel_rfl))
 f137:=Tryz.func112.trans (congrArg some (by kernel_rfl))
 f151:=Tryz.func82.trans (congrArg some (by kernel_rfl))
 f152:=Tryz.func98.trans (congrArg some (by kernel_rfl))
 f160:=Tryz.func86.trans (congrArg some (by kernel_rfl))
 f197:=Tryz.func81.trans (congrArg some (by kernel_rfl))
 f217:=Tryz.func54.trans (congrArg some (by kernel_rfl))
 f224:=Tryz.func56.trans (congrArg some (by kernel_rfl))
 f225:=Tryz.func55.trans (congrArg some (by kernel_rfl))
 f227:=Tryz.func59.trans (congrArg some (by kernel_rfl))
 f228:=Tryz.func80.trans (congrArg some (by kernel_rfl))
 f231:=Tryz.func58.trans (congrArg some (by kernel_rfl))
 f232:=Tryz.func103.trans (congrArg some (by kernel_rfl))
 f233:=Tryz.func60.trans (congrArg some (by kernel_rfl))
 f234:=Tryz.func104.trans (congrArg some (by kernel_rfl))
 f235:=Tryz.func61.trans (congrArg some (by kernel_rfl))
 f236:=Tryz.func105.trans (congrArg some (by kernel_rfl))
 f260:=Tryz.func97.trans (congrArg some (by kernel_rfl))
 f266:=Tryz.func78.trans (congrArg some (by kernel_rfl))
 f271:=Tryz.func120.trans (congrArg some (by kernel_rfl))
 t0:=Tryz.underlying0
 a0:=Tryz.isAgg0
 z0:=Tryz.sizeOf0
 v0:=Tryz.zeroValue0
 t3:=Tryz.underlying3
 a3:=Tryz.isAgg3
 z3:=Tryz.sizeOf3
 v3:=Tryz.zeroValue3
 t4:=Tryz.underlying4
 a4:=Tryz.isAgg4
 z4:=Tryz.sizeOf4
 v4:=Tryz.zeroValue4
 t5:=Tryz.underlying5
 a5:=Tryz.isAgg5
 z5:=Tryz.sizeOf5
 v5:=Tryz.zeroValue5
 t9:=Tryz.underlying9
 a9:=Tryz.isAgg9
 z9:=Tryz.sizeOf9
 v9:=Tryz.zeroValue9
 t21:=Tryz.underlying21
 a21:=Tryz.isAgg21
 z21:=Tryz.sizeOf21
 v21:=Tryz.zeroValue21
 t46:=Tryz.underlying125
 a46:=Tryz.isAgg125
 z46:=Tryz.sizeOf125
 v46:=Tryz.zeroValue125
 t105:=Tryz.underlying154
 a105:=Tryz.isAgg154
 z105:=Tryz.sizeOf154
 v105:=Tryz.zeroValue154
 t116:=Tryz.underlying128
 a116:=Tryz.isAgg128
 z116:=Tryz.sizeOf128
 t117:=Tryz.underlying129
 a117:=Tryz.isAgg129
 z117:=Tryz.sizeOf129
 v117:=Tryz.zeroValue129
 t119:=Tryz.underlying181
 a119:=Tryz.isAgg181
 z119:=Tryz.sizeOf181
 t124:=Tryz.underlying132
 a124:=Tryz.isAgg132
 z124:=Tryz.sizeOf132
 v124:=Tryz.zeroValue132
 t138:=Tryz.underlying194
 a138:=Tryz.isAgg194
 z138:=Tryz.sizeOf194
 v138:=Tryz.zeroValue194
 t139:=Tryz.underlying195
 a139:=Tryz.isAgg195
 z139:=Tryz.sizeOf195
 v139:=Tryz.zeroValue195
 g3:=by kernel_rfl
 g4:=by kernel_rfl
}
def IT:Go.Shelf.Ren:=⟨fun | 119=>113 | 137=>112 | 152=>98 | 153=>102 | 217=>54 | 224=>56 | 225=>55 | 226=>119 | 227=>59 | 228=>80 | 266=>78 | n=>n,fun | 0=>0 | 3=>3 | 4=>4 | 5=>5 | 9=>9 | 21=>21 | 46=>125 | 116=>128 | 117=>129 | 124=>132 | n=>n,fun  | n=>n⟩
theorem IU:Go.Proofs.Lays.n153 Tryz.prog IT:={
 mixed:=by kernel_rfl
 f119:=Tryz.func113.trans (congrArg some (by kernel_rfl))
 f137:=Tryz.func112.trans (congrArg some (by kernel_rfl))
 f152:=Tryz.func98.trans (congrArg some (by kernel_rfl))
 f153:=Tryz.func102.trans (congrArg some (by kernel_rfl))
 f217:=Tryz.func54.trans (congrArg some (by kernel_rfl))
 f224:=Tryz.func56.trans (congrArg some (by kernel_rfl))
 f225:=Tryz.func55.trans (congrArg some (by kernel_rfl))
 f226:=Tryz.func119.trans (congrArg some (by kernel_rfl))
 f227:=Tryz.func59.trans (congrArg some (by kernel_rfl))
 f228:=Tryz.func80.trans (congrArg some (by kernel_rfl))
 f266:=Tryz.func78.trans (congrArg some (by kernel_rfl))
 t0:=Tryz.underlying0
 a0:=Tryz.isAgg0
 z0:=Tryz.sizeOf0
 v0:=Tryz.zeroValue0
 t3:=Tryz.underlying3
 a3:=Tryz.isAgg3
 z3:=Tryz.sizeOf3
 v3:=Tryz.zeroValue3
 t4:=Tryz.underlying4
 a4:=Tryz.isAgg4
 z4:=Tryz.sizeOf4
 v4:=Tryz.zeroValue4
 t5:=Tryz.underlying5
 a5:=Tryz.isAgg5
 z5:=Tryz.sizeOf5
 v5:=Tryz.zeroValue5
 t9:=Tryz.underlying9
 a9:=Tryz.isAgg9
 z9:=Tryz.sizeOf9
 v9:=Tryz.zeroValue9
 t21:=Tryz.underlying21
 a21:=Tryz.isAgg21
 z21:=Tryz.sizeOf21
 v21:=Tryz.zeroValue21
 t46:=Tryz.underlying125
 a46:=Tryz.isAgg125
 z46:=Tryz.sizeOf125
 v46:=Tryz.zeroValue125
 t116:=Tryz.underlying128
 a116:=Tryz.isAgg128
 z116:=Tryz.sizeOf128
 t117:=Tryz.underlying129
 a117:=Tryz.isAgg129
 z117:=Tryz.sizeOf129
 v117:=Tryz.zeroValue129
 t124:=Tryz.underlying132
 a124:=Tryz.isAgg132
 z124:=Tryz.sizeOf132
 v124:=Tryz.zeroValue132
}
def XE:Go.Shelf.Ren:=⟨fun | 137=>112 | 217=>54 | 266=>78 | n=>n,fun | 3=>3 | 5=>5 | 9=>9 | n=>n,fun  | n=>n⟩
theorem XF:Go.Proofs.Lays.n137 Tryz.prog XE:={
 mixed:=by kernel_rfl
 f137:=Tryz.func112.trans (congrArg some (by kernel_rfl))
 f217:=Tryz.func54.trans (congrArg some (by kernel_rfl))
 f266:=Tryz.func78.trans (congrArg some (by kernel_rfl))
 t3:=Tryz.underlying3
 a3:=Tryz.isAgg3
 z3:=Tryz.sizeOf3
 v3:=Tryz.zeroValue3
 t5:=Tryz.underlying5
 a5:=Tryz.isAgg5
 z5:=Tryz.sizeOf5
 v5:=Tryz.zeroValue5
 t9:=Tryz.underlying9
 a9:=Tryz.isAgg9
 z9:=Tryz.sizeOf9
 v9:=Tryz.zeroValue9
}
def QQ:Go.Shelf.Ren:=⟨fun | 166=>95 | 240=>106 | 276=>121 | n=>n,fun | 0=>0 | 3=>3 | 4=>4 | 5=>5 | 9=>9 | 20=>20 | 37=>165 | 70=>164 | 72=>167 | 75=>169 | 80=>61 | 164=>213 | n=>n,fun  | n=>n⟩
theorem Uf:Go.Proofs.Lays.n166 Tryz.prog QQ:={
 mixed:=by kernel_rfl
 f166:=Tryz.func95.trans (congrArg some (by kernel_rfl))
 f240:=Tryz.func106.trans (congrArg some (by kernel_rfl))
 f276:=Tryz.func121.trans (congrArg some (by kernel_rfl))
 t0:=Tryz.underlying0
 a0:=Tryz.isAgg0
 z0:=Tryz.sizeOf0
 v0:=Tryz.zeroValue0
 t3:=Tryz.underlying3
 a3:=Tryz.isAgg3
 z3:=Tryz.sizeOf3
 v3:=Tryz.zeroValue3
 t4:=Tryz.underlying4
 a4:=Tryz.isAgg4
 z4:=Tryz.sizeOf4
 v4:=Tryz.zeroValue4
 t9:=Tryz.underlying9
 a9:=Tryz.isAgg9
 z9:=Tryz.sizeOf9
 v9:=Tryz.zeroValue9
 t20:=Tryz.underlying20
 a20:=Tryz.isAgg20
 z20:=Tryz.sizeOf20
 v20:=Tryz.zeroValue20
 t37:=Tryz.underlying165
 a37:=Tryz.isAgg165
 z37:=Tryz.sizeOf165
 v37:=Tryz.zeroValue165
 t70:=Tryz.underlying164
 a70:=Tryz.isAgg164
 z70:=Tryz.sizeOf164
 v70:=Tryz.zeroValue164
 t72:=Tryz.underlying167
 a72:=Tryz.isAgg167
 z72:=Tryz.sizeOf167
 v72:=Tryz.zeroValue167
 t75:=Tryz.underlying169
 a75:=Tryz.isAgg169
 z75:=Tryz.sizeOf169
 v75:=Tryz.zeroValue169
 t164:=Tryz.underlying213
 a164:=Tryz.isAgg213
 z164:=Tryz.sizeOf213
 v164:=Tryz.zeroValue213
}
theorem RM:Builder.Extra Tryz.prog QQ:={
 sizeBuilder:=by kernel_rfl
 liesBuilder:=by kernel_rfl
 t5:=Tryz.underlying5
 a5:=Tryz.isAgg5
 z5:=Tryz.sizeOf5
 v5:=Tryz.zeroValue5
 infoByte:=by kernel_rfl
 cellsByte:=by kernel_rfl
 sizeByte:=by kernel_rfl
 neB5:=by decide }
theorem Kz (B b:Nat) (bs:List Value) (s:ByteArray) (w:World) (h:Lib.IsBuilderF 167 5 B b bs w) (hlen:bs.length+s.size≤140737488355328) (hBw:B≤w.heap.size) :
  Calls Tryz.prog 95 #[.pointer (some ⟨b,0,none⟩),.string s] w fun e w'=>e=.returned (.tuple #[.int .i64 s.size,.nilIface])∧(Lib.BuilderAtF 167 5 B b (.pointer (some ⟨b,0,none⟩)) (bs++Lib.byteCells s.data.toList) w'∧Below B w w'∧Lib.OthersKept 5 (some b) w w'):=
 Any.Builder_WriteString_k Uf RM B b bs s w h hlen hBw
theorem OL (s cutset:ByteArray) (w:World) (hcs:cutset.size < 4294967281) (ha:∀ (j:Nat) b,cutset.data.toList[j]?=some b→b.toNat < 128) :
  Calls Tryz.prog 39 #[.string s,.string cutset] w fun e w'=>e=.returned (.string (txt (Lib.trimLeftS s.data.toList cutset.data.toList)))∧Below w.heap.size w w':=
 Any.strings_TrimLeft_laid QP (by kernel_rfl) s cutset w hcs ha
theorem ZJ (s cutset:ByteArray) (w:World) (hs:s.size≤9223372036854775807) (hcs:cutset.size < 4294967281) (ha:∀ (j:Nat) b,cutset.data.toList[j]?=some b→b.toNat < 128) :
  Calls Tryz.prog 86 #[.string s,.string cutset] w fun e w'=>e=.returned (.string (txt (Lib.trimS s.data.toList cutset.data.toList)))∧Below w.heap.size w w':=
 Any.strings_Trim_laid XD (by kernel_rfl) s cutset w hs hcs ha
theorem Fv (s:ByteArray) (c:UInt8) (w:World) :
  Calls Tryz.prog 112 #[.string s,.int .u8 c.toNat] w fun e w'=>e=.returned (.int .i64 (Lib.indexByte s.data.toList c))∧w'=w:=by
 have h:=Any.strings_IndexByte XF s c.toNat w;rw [Lib.byte_back'] at h;exact h
theorem LL (s chars:ByteArray) (w:World) (h1:chars.size=1) (ha:∀ (j:Nat) b,chars.data.toList[j]?=some b→b.toNat < 128) :
  Calls Tryz.prog 102 #[.string s,.string chars] w fun e w'=>e=.returned (.int .i64 (Lib.indexAny s.data.toList chars.data.toList))∧w'=w:=
 Any.strings_IndexAny_one IU s chars w h1 ha
theorem K0 (s chars:ByteArray) (w:World) (h2:2≤chars.size) (h8:8 < s.size) (hs:s.size < 4294967281) (hcs:chars.size < 4294967281) (ha:∀ (j:Nat) b,chars.data.toList[j]?=some b→b.toNat < 128) :
  Calls Tryz.prog 102 #[.string s,.string chars] w fun e w'=>e=.returned (.int .i64 (Lib.indexAny s.data.toList chars.data.toList))∧Below w.heap.size w w':=by
 have h116:(Tryz.prog.info? (IT.t 116)).map (fun i=>(i.zero,i.size))=some (some (.agg (Array.replicate 256 (.bool false))),256):=by kernel_rfl
 refine (Any.strings_IndexAny_long IU (zero_of_info h116).1 (zero_of_info h116).2 s chars w h2 h8 hs hcs ha).mono fun e w' ⟨h1,h2⟩=>⟨h1,?_⟩
 rw [h2];exact ((Adk _ _).alloc (Adf _) _).alloc (by simp) _
end
section
open Go.RowKit
theorem BX (s:ByteArray) (k:Nat):(s.extract k s.size).data.toList=s.data.toList.drop k:=Lib.extract_to_end s k
theorem Cd (s:ByteArray) (k e:Nat):(s.extract k e).data.toList=(s.data.toList.drop k).take (e - k):=by
 rw [ByteArray.data_extract,Array.toList_extract,List.extract_eq_take_drop]
theorem E9 (s:ByteArray) (k:Nat) (w:World) (h:k≤s.size):Calls Tryz.prog 38 #[.string s,.int .i64 k] w fun e w'=>e=.returned (.bool true)∧w'=w:=by
 go_enter Tryz.func38,Tryz.ntmps38;have h0:(0:Int)≤(k:Int):=by omega
 have h1:(k:Int)≤(s.size:Int):=by omega
 go_wp2
 go_ret;exact ⟨rfl,rfl⟩
theorem Ug (s:ByteArray) (a:Int) (w:World) (h:¬ (0≤a∧a≤(s.size:Int))):Calls Tryz.prog 38 #[.string s,.int .i64 a] w fun e w'=>e=.returned (.bool false)∧w'=w:=by
 go_enter Tryz.func38,Tryz.ntmps38;by_cases h0:(0:Int)≤a
 ·have h1:¬ a≤(s.size:Int):=fun h1=>h ⟨h0,h1⟩
  clear h
  go_wp2
  go_ret;exact ⟨rfl,rfl⟩
 ·clear h
  go_wp2
  go_ret;exact ⟨rfl,rfl⟩
theorem Gu (s cs:ByteArray) (k:Nat) (w:World) (hs:s.size≤4000000) (hk:k≤s.size) (hcs:cs.size < 4294967281) (ha:∀ (j:Nat) b,cs.data.toList[j]?=some b→b.toNat < 128) :
  Calls Tryz.prog 31 #[.string s,.int .i64 k,.string cs] w fun e w'=>e=.returned (.int .i64 ((k+EQ cs.data.toList (s.data.toList.drop k):Nat):Int))∧Below w.heap.size w w':=by
 have hP:=E9 s k w hk;have hT:=OL (s.extract k s.size) cs w hcs ha;rw [BX] at hT;have ht:=RL cs.data.toList (s.data.toList.drop k);rw [List.length_drop,←Ad] at ht;obtain ⟨m,hm⟩:∃ m,EQ cs.data.toList (s.data.toList.drop k)=m:=⟨_,rfl⟩;rw [hm] at ht ⊢;obtain ⟨r,hr⟩:∃ r,txt (Lib.trimLeftS (s.data.toList.drop k) cs.data.toList)=r:=⟨_,rfl⟩;have hrs:r.size+m=s.size - k:=by rw [←hr,CJ];exact ht
 rw [hr] at hT;clear hr ht hm ha;have hsum:IntKind.i64.wrap ((s.size:Int) - (r.size:Int))=((k+m:Nat):Int):=by rw [Adm _ (by omega)];omega
 go_enter Tryz.func31,Tryz.ntmps31;go_wp2_with (first
  | (go_at_call 38;refine hP.mono ?_;rintro e w' ⟨rfl,rfl⟩)
  | (go_at_call 39;refine hT.mono ?_;rintro e w1 ⟨rfl,hb⟩))
 go_ret;exact ⟨by go_num,hb⟩
theorem Jy (s cs:ByteArray) (a:Int) (w:World) (h:¬ (0≤a∧a≤(s.size:Int))) :
  Calls Tryz.prog 31 #[.string s,.int .i64 a,.string cs] w fun e w'=>e=.returned (.int .i64 0)∧Below w.heap.size w w':=by
 have hP:=Ug s a w h;clear h;go_enter Tryz.func31,Tryz.ntmps31;go_wp2_with (go_at_call 38;refine hP.mono ?_;rintro e w' ⟨rfl,rfl⟩)
 go_ret;exact ⟨rfl,Adk _ _⟩
theorem Jz:∀ (j:Nat) b,(⟨#[32,9]⟩:ByteArray).data.toList[j]?=some b→b.toNat < 128:=ascii_of_all (by decide)
theorem RN:∀ (j:Nat) b,(⟨#[32,9,10,59]⟩:ByteArray).data.toList[j]?=some b→b.toNat < 128:=ascii_of_all (by decide)
theorem OM:∀ (j:Nat) b,(⟨#[48,49,50,51,52,53,54,55,56,57]⟩:ByteArray).data.toList[j]?=some b→b.toNat < 128:=ascii_of_all (by decide)
theorem IA (s:ByteArray) (a:Int) (w:World) (hs:s.size≤4000000) :
  Calls Tryz.prog 66 #[.string s,.int .i64 a] w fun e w'=>e=.returned (.int .i64 (Cv [32,9] s.data.toList a:Nat))∧Below w.heap.size w w':=by
 have hB:Calls Tryz.prog 31 #[.string s,.int .i64 a,.string ⟨#[32,9]⟩] w fun e w'=>e=.returned (.int .i64 (Cv [32,9] s.data.toList a:Nat))∧Below w.heap.size w w':=by
  by_cases h:0≤a∧a≤(s.size:Int)
  ·obtain ⟨k,rfl⟩:∃ k:Nat,a=k:=⟨a.toNat,by omega⟩
   rw [Du _ _ _ (by rw [←Ad];omega)];exact Gu s ⟨#[32,9]⟩ k w hs (by omega) (by decide) Jz
  ·rw [I9 _ _ _ (by rw [←Ad];exact h)]
   exact Jy s ⟨#[32,9]⟩ a w h
 generalize Cv [32,9] s.data.toList a=r at hB ⊢;go_enter Tryz.func66,Tryz.ntmps66;go_wp2_with (go_at_call 31;refine hB.mono ?_;rintro e w1 ⟨rfl,hb⟩)
 go_ret;exact ⟨rfl,hb⟩
theorem ON (s:ByteArray) (a:Int) (w:World) (hs:s.size≤4000000) :
  Calls Tryz.prog 22 #[.string s,.int .i64 a] w fun e w'=>e=.returned (.int .i64 (Cv [32,9,10,59] s.data.toList a:Nat))∧Below w.heap.size w w':=by
 have hB:Calls Tryz.prog 31 #[.string s,.int .i64 a,.string ⟨#[32,9,10,59]⟩] w fun e w'=>e=.returned (.int .i64 (Cv [32,9,10,59] s.data.toList a:Nat))∧Below w.heap.size w w':=by
  by_cases h:0≤a∧a≤(s.size:Int)
  ·obtain ⟨k,rfl⟩:∃ k:Nat,a=k:=⟨a.toNat,by omega⟩
   rw [Du _ _ _ (by rw [←Ad];omega)];exact Gu s ⟨#[32,9,10,59]⟩ k w hs (by omega) (by decide) RN
  ·rw [I9 _ _ _ (by rw [←Ad];exact h)]
   exact Jy s ⟨#[32,9,10,59]⟩ a w h
 generalize Cv [32,9,10,59] s.data.toList a=r at hB ⊢;go_enter Tryz.func22,Tryz.ntmps22;go_wp2_with (go_at_call 31;refine hB.mono ?_;rintro e w1 ⟨rfl,hb⟩)
 go_ret;exact ⟨rfl,hb⟩
abbrev Acu (r:Nat × Nat × Nat):Ending:=.returned (.tuple #[.int .i64 (r.1:Nat),.int .i64 (r.2.1:Nat),.int .i64 (r.2.2:Nat)])
abbrev pcA (r:Er):Ending:=.returned (.tuple #[.string (txt r.1),.int .i64 (r.2.1:Nat),.int .i64 (r.2.2:Nat)])
theorem CK {t:ByteArray} {n e:Int} {r:Er} (h1:t=txt r.1) (h2:n=(r.2.1:Nat)) (h3:e=(r.2.2:Nat)):Ending.returned (.tuple #[.string t,.int .i64 n,.int .i64 e])=pcA r:=by rw [h1,h2,h3]
theorem Gv (s:ByteArray) (k:Nat) (w:World) (hs:s.size≤4000000) (hk:k≤s.size) :
  Calls Tryz.prog 83 #[.string s,.int .i64 k] w fun e w'=>e=Acu (Bu s.data.toList k)∧Below w.heap.size w w':=by
 have hP:=E9 s k w hk;have hB:=Gu s ⟨#[48,49,50,51,52,53,54,55,56,57]⟩ k w hs hk (by decide) OM;rw [show (⟨#[48,49,50,51,52,53,54,55,56,57]⟩:ByteArray).data.toList=A2 from rfl] at hB;have hle:=GI (fun b=>A2.contains b) s k hk;have hbf:=GH (fun b=>A2.contains b) (s.data.toList.drop k);obtain ⟨m,hm⟩:∃ m,EQ A2 (s.data.toList.drop k)=m:=⟨_,rfl⟩;have hm':AH (fun b=>A2.contains b) (s.data.toList.drop k)=m:=hm;rw [hm'] at hle hbf;rw [hm] at hB;have hN:Bu s.data.toList k=if m=0 then (0,k,2) else if 9 < m then (0,k,3) else (E7 ((s.data.toList.drop k).take m),k+m,0):=by unfold Bu;rw [hm]
 obtain ⟨R,hR⟩:∃ R,Bu s.data.toList k=R:=⟨_,rfl⟩;rw [hR] at hN ⊢;have HR:=Ac8 hN;clear hN hm' hR;have HB:=Ac8 hbf;clear hbf;go_enter Tryz.func83,Tryz.ntmps83;by_cases h0:m=0
 ·subst h0
  have hE:(((k+0:Nat):Int) == (k:Int))=true:=by simp
  go_wp2_with (first
   | (go_at_call 38;refine hP.mono ?_;rintro e w' ⟨rfl,rfl⟩)
   | (go_at_call 31;refine hB.mono ?_;rintro e w1 ⟨rfl,hb⟩))
  go_ret3
  rw [HR.out];exact ⟨rfl,hb⟩
 ·have hE:(((k+m:Nat):Int) == (k:Int))=false:=beq_eq_false_iff_ne.2 (by omega)
  have hS:IntKind.i64.wrap (((k+m:Nat):Int) - (k:Int))=(m:Int):=by rw [Adm _ (by omega)];omega
  by_cases h9:9 < m
  ·have h9':(9:Int) < (m:Int):=by omega
   go_wp2_with (first
    | (go_at_call 38;refine hP.mono ?_;rintro e w' ⟨rfl,rfl⟩)
    | (go_at_call 31;refine hB.mono ?_;rintro e w1 ⟨rfl,hb⟩))
   go_ret3
   rw [HR.out,if_neg h0,if_pos h9];exact ⟨rfl,hb⟩
  ·have h9':¬ (9:Int) < (m:Int):=by omega
   have hDl:=Cd s k (k+m);rw [show k+m - k=m by omega] at hDl;have hDs:(s.extract k (k+m)).size=m:=by simp;omega
   obtain ⟨D,hD⟩:∃ D,s.extract k (k+m)=D:=⟨_,rfl⟩;rw [hD] at hDl hDs;go_wp2_with (first
    | (go_at_call 38;refine hP.mono ?_;rintro e w' ⟨rfl,rfl⟩)
    | (go_at_call 31;refine hB.mono ?_;rintro e w1 ⟨rfl,hb⟩))
   go_loopg [8,10] m (fun g n _ wx=>∃ i:Nat,i+g=m∧n=.int .i64 (E7 (D.data.toList.take i):Nat)∧wx=w1.iter D i)
   case atStart=>exact ⟨0,by omega,rfl,rfl⟩
   case round=>
    obtain ⟨i,hig,rfl,rfl⟩:=hrel;cases gk with
    | zero=>
     obtain rfl:i=m:=by omega
     have hnx:=fun ty=>run_next_end (P:=Tryz.prog) w1 D i ty (by omega)
     go_wp2
     go_ret3
     refine ⟨?_,hb.alloc hb.size _⟩;rw [HR.out,if_neg h0,if_neg h9,←hDl,List.take_of_length_le (by rw [←Ad,hDs];exact Adf _)];rfl
    | succ g=>
     have hi:i < D.size:=by omega
     have hx:D.data.toList[i]?=some D[i]:=Lib.data_getElem? D i hi;have hdig:A2.contains D[i]=true:=HB.out i D[i] (by omega) (by rw [hDl,List.getElem?_take_of_lt (by omega)] at hx;exact hx);rw [DB] at hdig;simp only [Bool.and_eq_true,decide_eq_true_eq] at hdig;have hnx:=fun ty=>run_next_ascii (P:=Tryz.prog) w1 D i ty hi (by omega)
     have hlt:E7 (D.data.toList.take i) < 1000000000:=by
      refine OK _ (fun b hb=>?_) (by rw [List.length_take];omega);obtain ⟨j,hj,he⟩:=List.mem_iff_getElem.1 hb;rw [List.length_take] at hj;have hj2:j < D.data.toList.length:=by omega
      refine HB.out j b (by omega) ?_;have h3:D.data.toList[j]?=some b:=by rw [List.getElem?_eq_getElem hj2,←he,List.getElem_take]
      rw [hDl,List.getElem?_take_of_lt (by omega)] at h3;exact h3
     have Hn:=Ac8 (show E7 (D.data.toList.take (i+1))=E7 (D.data.toList.take i) * 10+(D[i].toNat - 48) by
      rw [List.take_add_one,hx,Option.toList_some,OJ])
     obtain ⟨v,hv⟩:∃ v,E7 (D.data.toList.take i)=v:=⟨_,rfl⟩;rw [hv] at hlt Hn ⊢;clear hx hv;have W1:IntKind.i64.wrap (10 * (v:Int))=10 * (v:Int):=Adm _ (by omega)
     go_wp2
     go_roundg g
     case measure=>omega
     case rel=>
      refine ⟨i+1,by omega,?_,rfl⟩;rw [Hn.out];exact congrArg (Value.int .i64) (by omega)
end
end Go.Proofs.YteilldmmihiijaaGreatDoor
