/- The proof's texts PcLy, PcW, PcB: what the claim reaches of them. -/
import Derived.Shelf.Strings.SlTrimAscii
import Derived.Shelf.Strings.IndexAnyAll
import Derived.Shelf.Small.Strs
import Derived.Test.YtbgfankoojjejaaGreatDoorGd18
import Derived.Test.YtbgfankoojjejaaGreatDoorGd05
import Derived.WalkKit
import Derived.WalkSpells
import Derived.WalkLawsBesides
import Derived.BigCall
import Derived.BigQuiet
import Derived.Deep.QuietTactic
import Derived.Lib.Hide
import Derived.Deep.LoopGhost
set_option linter.unusedSimpArgs false
set_option linter.unusedVariables false
set_option maxHeartbeats 8000000
set_option maxRecDepth 1000000
namespace Go.Proofs.YtbgfankoojjejaaGreatDoor
open Go.RowKit Go.Shelf
set_option linter.unusedVariables false
def pren161:Go.Shelf.Ren:=⟨fun | 119=>116 | 137=>85 | 151=>95 | 152=>91 | 161=>70 | 197=>94 | 217=>102 | 224=>117 | 225=>118 | 227=>74 | 228=>93 | 231=>72 | 233=>75 | 235=>77 | 260=>119 | 266=>121 | n=>n,fun | 0=>0 | 3=>3 | 4=>4 | 5=>5 | 9=>9 | 21=>21 | 46=>210 | 105=>185 | 116=>151 | 117=>152 | 119=>118 | 124=>155 | 138=>222 | 139=>223 | n=>n,fun | 3=>2 | 4=>3 | n=>n⟩
theorem play161:Go.Proofs.Lays.n161 Tryz.prog pren161:={
 mixed:=by kernel_rfl
 f119:=Tryz.func116.trans (congrArg some (by kernel_rfl))
 f137:=Tryz.func85.trans (congrArg some (by kernel_rfl))
 f151:=Tryz.func95.trans (congrArg some (by kernel_rfl))
 f152:=Tryz.func91.trans (congrArg some (by kernel_rfl))
 f161:=Tryz.func70.trans (congrArg some (by kernel_rfl))
 f197:=Tryz.func94.trans (congrArg some (by kernel_rfl))
 f217:=Tryz.func102.trans (congrArg some (by kernel_rfl))
 f224:=Tryz.func117.trans (congrArg some (by kernel_rfl))
 f225:=Tryz.func118.trans (congrArg some (by kernel_rfl))
 f227:=Tryz.func74.trans (congrArg some (by kernel_rfl))
 f228:=Tryz.func93.trans (congrArg some (by kernel_rfl))
 f231:=Tryz.func72.trans (congrArg some (by kernel_rfl))
 f233:=Tryz.func75.trans (congrArg some (by kernel_rfl))
 f235:=Tryz.func77.trans (congrArg some (by kernel_rfl))
 f260:=Tryz.func119.trans (congrArg some (by kernel_rfl))
 f266:=Tryz.func121.trans (congrArg some (by kernel_rfl))
 t0:=Tryz.underlying0
 a0:=Tryz.isAgg0
 z0:=Tryz.sizeOf0
 v0:=Tryz.zeroValue0
 t3:=Tryz.underlying3
 a3:=Tryz.isAgg3
 z3:=Tryz.sizeOf3
 v3:=Tryz.zeroValue3
 t4:=Tryz.underlying4
 a4:=Tryz.isAgg4
 z4:=Tryz.sizeOf4
 v4:=Tryz.zeroValue4
 t5:=Tryz.underlying5
 a5:=Tryz.isAgg5
 z5:=Tryz.sizeOf5
 v5:=Tryz.zeroValue5
 t9:=Tryz.underlying9
 a9:=Tryz.isAgg9
 z9:=Tryz.sizeOf9
 v9:=Tryz.zeroValue9
 t21:=Tryz.underlying21
 a21:=Tryz.isAgg21
 z21:=Tryz.sizeOf21
 v21:=Tryz.zeroValue21
 t46:=Tryz.underlying210
 a46:=Tryz.isAgg210
 z46:=Tryz.sizeOf210
 v46:=Tryz.zeroValue210
 t105:=Tryz.underlying185
 a105:=Tryz.isAgg185
 z105:=Tryz.sizeOf185
 v105:=Tryz.zeroValue185
 t116:=Tryz.underlying151
 a116:=Tryz.isAgg151
 z116:=Tryz.sizeOf151
 t117:=Tryz.underlying152
 a117:=Tryz.isAgg152
 z117:=Tryz.sizeOf152
 v117:=Tryz.zeroValue152
 t119:=Tryz.underlying118
 a119:=Tryz.isAgg118
 z119:=Tryz.sizeOf118
 t124:=Tryz.underlying155
 a124:=Tryz.isAgg155
 z124:=Tryz.sizeOf155
 v124:=Tryz.zeroValue155
 t138:=Tryz.underlying222
 a138:=Tryz.isAgg222
 z138:=Tryz.sizeOf222
 v138:=Tryz.zeroValue222
 t139:=Tryz.underlying223
 a139:=Tryz.isAgg223
 z139:=Tryz.sizeOf223
 v139:=Tryz.zeroValue223
 g3:=by kernel_rfl
 g4:=by kernel_rfl
}
def pren160:Go.Shelf.Ren:=⟨fun | 119=>116 | 120=>120 | 137=>85 | 151=>95 | 152=>91 | 160=>53 | 197=>94 | 217=>102 | 224=>117 | 225=>118 | 227=>74 | 228=>93 | 231=>72 | 232=>73 | 233=>75 | 234=>76 | 235=>77 | 236=>78 | 260=>119 | 266=>121 | 271=>96 | n=>n,fun | 0=>0 | 3=>3 | 4=>4 | 5=>5 | 9=>9 | 21=>21 | 46=>210 | 105=>185 | 116=>151 | 117=>152 | 119=>118 | 124=>155 | 138=>222 | 139=>223 | n=>n,fun | 3=>2 | 4=>3 | n=>n⟩
theorem play160:Go.Proofs.Lays.n160 Tryz.prog pren160:={
 mixed:=by kernel_rfl
 f119:=Tryz.func116.trans (congrArg some (by kernel_rfl))
 f120:=Tryz.func120.trans (congrArg some (by kernel_rfl))
 f137:=Tryz.func85.trans (congrArg some (by kernel_rfl))
 f151:=Tryz.func95.trans (congrArg some (by kernel_rfl))
 f152:=Tryz.func91.trans (congrArg some (by kernel_rfl))
 f160:=Tryz.func53.trans (congrArg some (by kernel_rfl))
 f197:=Tryz.func94.trans (congrArg some (by kernel_rfl))
 f217:=Tryz.func102.trans (congrArg some (by kernel_rfl))
 f224:=Tryz.func117.trans (congrArg some (by kernel_rfl))
 f225:=Tryz.func118.trans (congrArg some (by kernel_rfl))
 f227:=Tryz.func74.trans (congrArg some (by kernel_rfl))
 f228:=Tryz.func93.trans (congrArg some (by kernel_rfl))
 f231:=Tryz.func72.trans (congrArg some (by kernel_rfl))
 f232:=Tryz.func73.trans (congrArg some (by kernel_rfl))
 f233:=Tryz.func75.trans (congrArg some (by kernel_rfl))
 f234:=Tryz.func76.trans (congrArg some (by kernel_rfl))
 f235:=Tryz.func77.trans (congrArg some (by kernel_rfl))
 f236:=Tryz.func78.trans (congrArg some (by kernel_rfl))
 f260:=Tryz.func119.trans (congrArg some (by kernel_rfl))
 f266:=Tryz.func121.trans (congrArg some (by kernel_rfl))
 f271:=Tryz.func96.trans (congrArg some (by kernel_rfl))
 t0:=Tryz.underlying0
 a0:=Tryz.isAgg0
 z0:=Tryz.sizeOf0
 v0:=Tryz.zeroValue0
 t3:=Tryz.underlying3
 a3:=Tryz.isAgg3
 z3:=Tryz.sizeOf3
 v3:=Tryz.zeroValue3
 t4:=Tryz.underlying4
 a4:=Tryz.isAgg4
 z4:=Tryz.sizeOf4
 v4:=Tryz.zeroValue4
 t5:=Tryz.underlying5
 a5:=Tryz.isAgg5
 z5:=Tryz.sizeOf5
 v5:=Tryz.zeroValue5
 t9:=Tryz.underlying9
 a9:=Tryz.isAgg9
 z9:=Tryz.sizeOf9
 v9:=Tryz.zeroValue9
 t21:=Tryz.underlying21
 a21:=Tryz.isAgg21
 z21:=Tryz.sizeOf21
 v21:=Tryz.zeroValue21
 t46:=Tryz.underlying210
 a46:=Tryz.isAgg210
 z46:=Tryz.sizeOf210
 v46:=Tryz.zeroValue210
 t105:=Tryz.underlying185
 a105:=Tryz.isAgg185
 z105:=Tryz.sizeOf185
 v105:=Tryz.zeroValue185
 t116:=Tryz.underlying151
 a116:=Tryz.isAgg151
 z116:=Tryz.sizeOf151
 t117:=Tryz.underlying152
 a117:=Tryz.isAgg152
 z117:=Tryz.sizeOf152
 v117:=Tryz.zeroValue152
 t119:=Tryz.underlying118
 a119:=Tryz.isAgg118
 z119:=Tryz.sizeOf118
 t124:=Tryz.underlying155
 a124:=Tryz.isAgg155
 z124:=Tryz.sizeOf155
 v124:=Tryz.zeroValue155
 t138:=Tryz.underlying222
 a138:=Tryz.isAgg222
 z138:=Tryz.sizeOf222
 v138:=Tryz.zeroValue222
 t139:=Tryz.underlying223
 a139:=Tryz.isAgg223
 z139:=Tryz.sizeOf223
 v139:=Tryz.zeroValue223
 g3:=by kernel_rfl
 g4:=by kernel_rfl
}
def pren153:Go.Shelf.Ren:=⟨fun | 119=>116 | 137=>85 | 152=>91 | 153=>71 | 217=>102 | 224=>117 | 225=>118 | 226=>92 | 227=>74 | 228=>93 | 266=>121 | n=>n,fun | 0=>0 | 3=>3 | 4=>4 | 5=>5 | 9=>9 | 21=>21 | 46=>210 | 116=>151 | 117=>152 | 124=>155 | n=>n,fun  | n=>n⟩
theorem play153:Go.Proofs.Lays.n153 Tryz.prog pren153:={
 mixed:=by kernel_rfl
 f119:=Tryz.func116.trans (congrArg some (by kernel_rfl))
 f137:=Tryz.func85.trans (congrArg some (by kernel_rfl))
 f152:=Tryz.func91.trans (congrArg some (by kernel_rfl))
 f153:=Tryz.func71.trans (congrArg some (by kernel_rfl))
 f217:=Tryz.func102.trans (congrArg some (by kernel_rfl))
 f224:=Tryz.func117.trans (congrArg some (by kernel_rfl))
 f225:=Tryz.func118.trans (congrArg some (by kernel_rfl))
 f226:=Tryz.func92.trans (congrArg some (by kernel_rfl))
 f227:=Tryz.func74.trans (congrArg some (by kernel_rfl))
 f228:=Tryz.func93.trans (congrArg some (by kernel_rfl))
 f266:=Tryz.func121.trans (congrArg some (by kernel_rfl))
 t0:=Tryz.underlying0
 a0:=Tryz.isAgg0
 z0:=Tryz.sizeOf0
 v0:=Tryz.zeroValue0
 t3:=Tryz.underlying3
 a3:=Tryz.isAgg3
 z3:=Tryz.sizeOf3
 v3:=Tryz.zeroValue3
 t4:=Tryz.underlying4
 a4:=Tryz.isAgg4
 z4:=Tryz.sizeOf4
 v4:=Tryz.zeroValue4
 t5:=Tryz.underlying5
 a5:=Tryz.isAgg5
 z5:=Tryz.sizeOf5
 v5:=Tryz.zeroValue5
 t9:=Tryz.underlying9
 a9:=Tryz.isAgg9
 z9:=Tryz.sizeOf9
 v9:=Tryz.zeroValue9
 t21:=Tryz.underlying21
 a21:=Tryz.isAgg21
 z21:=Tryz.sizeOf21
 v21:=Tryz.zeroValue21
 t46:=Tryz.underlying210
 a46:=Tryz.isAgg210
 z46:=Tryz.sizeOf210
 v46:=Tryz.zeroValue210
 t116:=Tryz.underlying151
 a116:=Tryz.isAgg151
 z116:=Tryz.sizeOf151
 t117:=Tryz.underlying152
 a117:=Tryz.isAgg152
 z117:=Tryz.sizeOf152
 v117:=Tryz.zeroValue152
 t124:=Tryz.underlying155
 a124:=Tryz.isAgg155
 z124:=Tryz.sizeOf155
 v124:=Tryz.zeroValue155
}
def pren137:Go.Shelf.Ren:=⟨fun | 137=>85 | 217=>102 | 266=>121 | n=>n,fun | 3=>3 | 5=>5 | 9=>9 | n=>n,fun  | n=>n⟩
theorem play137:Go.Proofs.Lays.n137 Tryz.prog pren137:={
 mixed:=by kernel_rfl
 f137:=Tryz.func85.trans (congrArg some (by kernel_rfl))
 f217:=Tryz.func102.trans (congrArg some (by kernel_rfl))
 f266:=Tryz.func121.trans (congrArg some (by kernel_rfl))
 t3:=Tryz.underlying3
 a3:=Tryz.isAgg3
 z3:=Tryz.sizeOf3
 v3:=Tryz.zeroValue3
 t5:=Tryz.underlying5
 a5:=Tryz.isAgg5
 z5:=Tryz.sizeOf5
 v5:=Tryz.zeroValue5
 t9:=Tryz.underlying9
 a9:=Tryz.isAgg9
 z9:=Tryz.sizeOf9
 v9:=Tryz.zeroValue9
}
def bren166:Go.Shelf.Ren:=⟨fun | 166=>62 | 240=>79 | 276=>97 | n=>n,fun | 0=>0 | 3=>3 | 4=>4 | 5=>5 | 9=>9 | 20=>20 | 37=>22 | 70=>100 | 72=>102 | 75=>104 | 80=>106 | 164=>188 | n=>n,fun  | n=>n⟩
theorem blays166:Go.Proofs.Lays.n166 Tryz.prog bren166:={
 mixed:=by kernel_rfl
 f166:=Tryz.func62.trans (congrArg some (by kernel_rfl))
 f240:=Tryz.func79.trans (congrArg some (by kernel_rfl))
 f276:=Tryz.func97.trans (congrArg some (by kernel_rfl))
 t0:=Tryz.underlying0
 a0:=Tryz.isAgg0
 z0:=Tryz.sizeOf0
 v0:=Tryz.zeroValue0
 t3:=Tryz.underlying3
 a3:=Tryz.isAgg3
 z3:=Tryz.sizeOf3
 v3:=Tryz.zeroValue3
 t4:=Tryz.underlying4
 a4:=Tryz.isAgg4
 z4:=Tryz.sizeOf4
 v4:=Tryz.zeroValue4
 t9:=Tryz.underlying9
 a9:=Tryz.isAgg9
 z9:=Tryz.sizeOf9
 v9:=Tryz.zeroValue9
 t20:=Tryz.underlying20
 a20:=Tryz.isAgg20
 z20:=Tryz.sizeOf20
 v20:=Tryz.zeroValue20
 t37:=Tryz.underlying22
 a37:=Tryz.isAgg22
 z37:=Tryz.sizeOf22
 v37:=Tryz.zeroValue22
 t70:=Tryz.underlying100
 a70:=Tryz.isAgg100
 z70:=Tryz.sizeOf100
 v70:=Tryz.zeroValue100
 t72:=Tryz.underlying102
 a72:=Tryz.isAgg102
 z72:=Tryz.sizeOf102
 v72:=Tryz.zeroValue102
 t75:=Tryz.underlying104
 a75:=Tryz.isAgg104
 z75:=Tryz.sizeOf104
 v75:=Tryz.zeroValue104
 t164:=Tryz.underlying188
 a164:=Tryz.isAgg188
 z164:=Tryz.sizeOf188
 v164:=Tryz.zeroValue188
}
theorem bextra166:Builder.Extra Tryz.prog bren166:={
 sizeBuilder:=by kernel_rfl
 liesBuilder:=by kernel_rfl
 t5:=Tryz.underlying5
 a5:=Tryz.isAgg5
 z5:=Tryz.sizeOf5
 v5:=Tryz.zeroValue5
 infoByte:=by kernel_rfl
 cellsByte:=by kernel_rfl
 sizeByte:=by kernel_rfl
 neB5:=by decide }
theorem writeString_k (B b:Nat) (bs:List Value) (s:ByteArray) (w:World) (h:Lib.IsBuilderF 102 5 B b bs w) (hlen:bs.length+s.size≤140737488355328) (hBw:B≤w.heap.size) :
  Calls Tryz.prog 62 #[.pointer (some ⟨b,0,none⟩),.string s] w fun e w'=>e=.returned (.tuple #[.int .i64 s.size,.nilIface])∧(Lib.BuilderAtF 102 5 B b (.pointer (some ⟨b,0,none⟩)) (bs++Lib.byteCells s.data.toList) w'∧Below B w w'∧Lib.OthersKept 5 (some b) w w'):=
 Any.Builder_WriteString_k blays166 bextra166 B b bs s w h hlen hBw
theorem trimLeft_k (s cutset:ByteArray) (w:World) (hcs:cutset.size < 4294967281) (ha:∀ (j:Nat) b,cutset.data.toList[j]?=some b→b.toNat < 128) :
  Calls Tryz.prog 70 #[.string s,.string cutset] w fun e w'=>e=.returned (.string (txt (Lib.trimLeftS s.data.toList cutset.data.toList)))∧Below w.heap.size w w':=
 Any.strings_TrimLeft_laid play161 (by kernel_rfl) s cutset w hcs ha
theorem trim_k (s cutset:ByteArray) (w:World) (hs:s.size≤9223372036854775807) (hcs:cutset.size < 4294967281) (ha:∀ (j:Nat) b,cutset.data.toList[j]?=some b→b.toNat < 128) :
  Calls Tryz.prog 53 #[.string s,.string cutset] w fun e w'=>e=.returned (.string (txt (Lib.trimS s.data.toList cutset.data.toList)))∧Below w.heap.size w w':=
 Any.strings_Trim_laid play160 (by kernel_rfl) s cutset w hs hcs ha
theorem indexByte_k (s:ByteArray) (c:UInt8) (w:World) :
  Calls Tryz.prog 85 #[.string s,.int .u8 c.toNat] w fun e w'=>e=.returned (.int .i64 (Lib.indexByte s.data.toList c))∧w'=w:=by
 have h:=Any.strings_IndexByte play137 s c.toNat w
 rw [Lib.byte_back'] at h
 exact h
theorem indexAny_one (s chars:ByteArray) (w:World) (h1:chars.size=1) (ha:∀ (j:Nat) b,chars.data.toList[j]?=some b→b.toNat < 128) :
  Calls Tryz.prog 71 #[.string s,.string chars] w fun e w'=>e=.returned (.int .i64 (Lib.indexAny s.data.toList chars.data.toList))∧w'=w:=
 Any.strings_IndexAny_one play153 s chars w h1 ha
theorem indexAny_long (s chars:ByteArray) (w:World) (h2:2≤chars.size) (h8:8 < s.size) (hs:s.size < 4294967281) (hcs:chars.size < 4294967281) (ha:∀ (j:Nat) b,chars.data.toList[j]?=some b→b.toNat < 128) :
  Calls Tryz.prog 71 #[.string s,.string chars] w fun e w'=>e=.returned (.int .i64 (Lib.indexAny s.data.toList chars.data.toList))∧Below w.heap.size w w':=by
 have h116:(Tryz.prog.info? (pren153.t 116)).map (fun i=>(i.zero,i.size))=some (some (.agg (Array.replicate 256 (.bool false))),256):=by kernel_rfl
 refine (Any.strings_IndexAny_long play153 (zero_of_info h116).1 (zero_of_info h116).2 s chars w h2 h8 hs hcs ha).mono fun e w' ⟨h1,h2⟩=>⟨h1,?_⟩
 rw [h2]
 exact ((Below.refl _ _).alloc (Nat.le_refl _) _).alloc (by simp) _
end Go.Proofs.YtbgfankoojjejaaGreatDoor
namespace Go.Proofs.YtbgfankoojjejaaGreatDoor
open Go.RowKit
theorem extractEnd_list (s:ByteArray) (k:Nat):(s.extract k s.size).data.toList=s.data.toList.drop k:=Lib.extract_to_end s k
theorem extract_list2 (s:ByteArray) (k e:Nat):(s.extract k e).data.toList=(s.data.toList.drop k).take (e - k):=by
 rw [ByteArray.data_extract,Array.toList_extract,List.extract_eq_take_drop]
theorem place_yes (s:ByteArray) (k:Nat) (w:World) (h:k≤s.size):Calls Tryz.prog 51 #[.string s,.int .i64 k] w fun e w'=>e=.returned (.bool true)∧w'=w:=by
 go_enter Tryz.func51,Tryz.ntmps51
 have h0:(0:Int)≤(k:Int):=by omega
 have h1:(k:Int)≤(s.size:Int):=by omega
 go_wp2
 go_ret
 exact ⟨rfl,rfl⟩
theorem place_no (s:ByteArray) (a:Int) (w:World) (h:¬ (0≤a∧a≤(s.size:Int))):Calls Tryz.prog 51 #[.string s,.int .i64 a] w fun e w'=>e=.returned (.bool false)∧w'=w:=by
 go_enter Tryz.func51,Tryz.ntmps51
 by_cases h0:(0:Int)≤a
 ·have h1:¬ a≤(s.size:Int):=fun h1=>h ⟨h0,h1⟩
  clear h
  go_wp2
  go_ret
  exact ⟨rfl,rfl⟩
 ·clear h
  go_wp2
  go_ret
  exact ⟨rfl,rfl⟩
theorem pbehind_at (s cs:ByteArray) (k:Nat) (w:World) (hs:s.size≤4000000) (hk:k≤s.size) (hcs:cs.size < 4294967281) (ha:∀ (j:Nat) b,cs.data.toList[j]?=some b→b.toNat < 128) :
  Calls Tryz.prog 49 #[.string s,.int .i64 k,.string cs] w fun e w'=>e=.returned (.int .i64 ((k+pcIs cs.data.toList (s.data.toList.drop k):Nat):Int))∧Below w.heap.size w w':=by
 have hP:=place_yes s k w hk
 have hT:=trimLeft_k (s.extract k s.size) cs w hcs ha
 rw [extractEnd_list] at hT
 have ht:=pcIs_trim cs.data.toList (s.data.toList.drop k)
 rw [List.length_drop,←size_list] at ht
 obtain ⟨m,hm⟩:∃ m,pcIs cs.data.toList (s.data.toList.drop k)=m:=⟨_,rfl⟩
 rw [hm] at ht ⊢
 obtain ⟨r,hr⟩:∃ r,txt (Lib.trimLeftS (s.data.toList.drop k) cs.data.toList)=r:=⟨_,rfl⟩
 have hrs:r.size+m=s.size - k:=by rw [←hr,txt_size];exact ht
 rw [hr] at hT
 clear hr ht hm ha
 have hsum:IntKind.i64.wrap ((s.size:Int) - (r.size:Int))=((k+m:Nat):Int):=by rw [IntWalk.i64_in _ (by omega)];omega
 go_enter Tryz.func49,Tryz.ntmps49
 go_wp2_with (first
  | (go_at_call 51;refine hP.mono ?_;rintro e w' ⟨rfl,rfl⟩)
  | (go_at_call 70;refine hT.mono ?_;rintro e w1 ⟨rfl,hb⟩))
 go_ret
 exact ⟨by go_num,hb⟩
theorem pbehind_no (s cs:ByteArray) (a:Int) (w:World) (h:¬ (0≤a∧a≤(s.size:Int))) :
  Calls Tryz.prog 49 #[.string s,.int .i64 a,.string cs] w fun e w'=>e=.returned (.int .i64 0)∧Below w.heap.size w w':=by
 have hP:=place_no s a w h
 clear h
 go_enter Tryz.func49,Tryz.ntmps49
 go_wp2_with (go_at_call 51;refine hP.mono ?_;rintro e w' ⟨rfl,rfl⟩)
 go_ret
 exact ⟨rfl,Below.refl _ _⟩
theorem asc_blanks:∀ (j:Nat) b,(⟨#[32,9]⟩:ByteArray).data.toList[j]?=some b→b.toNat < 128:=ascii_of_all (by decide)
theorem asc_digits:∀ (j:Nat) b,(⟨#[48,49,50,51,52,53,54,55,56,57]⟩:ByteArray).data.toList[j]?=some b→b.toNat < 128:=ascii_of_all (by decide)
theorem pblanks_any (s:ByteArray) (a:Int) (w:World) (hs:s.size≤4000000) :
  Calls Tryz.prog 32 #[.string s,.int .i64 a] w fun e w'=>e=.returned (.int .i64 (pcBehind [32,9] s.data.toList a:Nat))∧Below w.heap.size w w':=by
 have hB:Calls Tryz.prog 49 #[.string s,.int .i64 a,.string ⟨#[32,9]⟩] w fun e w'=>e=.returned (.int .i64 (pcBehind [32,9] s.data.toList a:Nat))∧Below w.heap.size w w':=by
  by_cases h:0≤a∧a≤(s.size:Int)
  ·obtain ⟨k,rfl⟩:∃ k:Nat,a=k:=⟨a.toNat,by omega⟩
   rw [pcBehind_at _ _ _ (by rw [←size_list];omega)]
   exact pbehind_at s ⟨#[32,9]⟩ k w hs (by omega) (by decide) asc_blanks
  ·rw [pcBehind_no _ _ _ (by rw [←size_list];exact h)]
   exact pbehind_no s ⟨#[32,9]⟩ a w h
 generalize pcBehind [32,9] s.data.toList a=r at hB ⊢
 go_enter Tryz.func32,Tryz.ntmps32
 go_wp2_with (go_at_call 49;refine hB.mono ?_;rintro e w1 ⟨rfl,hb⟩)
 go_ret
 exact ⟨rfl,hb⟩
abbrev ans3 (r:Nat × Nat × Nat):Ending:=.returned (.tuple #[.int .i64 (r.1:Nat),.int .i64 (r.2.1:Nat),.int .i64 (r.2.2:Nat)])
abbrev pcA (r:PcAns):Ending:=.returned (.tuple #[.string (txt r.1),.int .i64 (r.2.1:Nat),.int .i64 (r.2.2:Nat)])
theorem pcA_mk {t:ByteArray} {n e:Int} {r:PcAns} (h1:t=txt r.1) (h2:n=(r.2.1:Nat)) (h3:e=(r.2.2:Nat)):Ending.returned (.tuple #[.string t,.int .i64 n,.int .i64 e])=pcA r:=by rw [h1,h2,h3]
theorem pnumber_at (s:ByteArray) (k:Nat) (w:World) (hs:s.size≤4000000) (hk:k≤s.size) :
  Calls Tryz.prog 47 #[.string s,.int .i64 k] w fun e w'=>e=ans3 (pcNum s.data.toList k)∧Below w.heap.size w w':=by
 have hP:=place_yes s k w hk
 have hB:=pbehind_at s ⟨#[48,49,50,51,52,53,54,55,56,57]⟩ k w hs hk (by decide) asc_digits
 rw [show (⟨#[48,49,50,51,52,53,54,55,56,57]⟩:ByteArray).data.toList=pcDigits from rfl] at hB
 have hle:=pcLen_dropLe (fun b=>pcDigits.contains b) s k hk
 have hbf:=pcLen_before (fun b=>pcDigits.contains b) (s.data.toList.drop k)
 obtain ⟨m,hm⟩:∃ m,pcIs pcDigits (s.data.toList.drop k)=m:=⟨_,rfl⟩
 have hm':pcLen (fun b=>pcDigits.contains b) (s.data.toList.drop k)=m:=hm
 rw [hm'] at hle hbf
 rw [hm] at hB
 have hN:pcNum s.data.toList k=if m=0 then (0,k,2) else if 9 < m then (0,k,3) else (pcVal ((s.data.toList.drop k).take m),k+m,0):=by unfold pcNum;rw [hm]
 obtain ⟨R,hR⟩:∃ R,pcNum s.data.toList k=R:=⟨_,rfl⟩
 rw [hR] at hN ⊢
 have HR:=Lib.hid hN
 clear hN hm' hR
 have HB:=Lib.hid hbf
 clear hbf
 go_enter Tryz.func47,Tryz.ntmps47
 by_cases h0:m=0
 ·subst h0
  have hE:(((k+0:Nat):Int) == (k:Int))=true:=by simp
  go_wp2_with (first
   | (go_at_call 51;refine hP.mono ?_;rintro e w' ⟨rfl,rfl⟩)
   | (go_at_call 49;refine hB.mono ?_;rintro e w1 ⟨rfl,hb⟩))
  go_ret3
  rw [HR.out]
  exact ⟨rfl,hb⟩
 ·have hE:(((k+m:Nat):Int) == (k:Int))=false:=beq_eq_false_iff_ne.2 (by omega)
  have hS:IntKind.i64.wrap (((k+m:Nat):Int) - (k:Int))=(m:Int):=by rw [IntWalk.i64_in _ (by omega)];omega
  by_cases h9:9 < m
  ·have h9':(9:Int) < (m:Int):=by omega
   go_wp2_with (first
    | (go_at_call 51;refine hP.mono ?_;rintro e w' ⟨rfl,rfl⟩)
    | (go_at_call 49;refine hB.mono ?_;rintro e w1 ⟨rfl,hb⟩))
   go_ret3
   rw [HR.out,if_neg h0,if_pos h9]
   exact ⟨rfl,hb⟩
  ·have h9':¬ (9:Int) < (m:Int):=by omega
   have hDl:=extract_list2 s k (k+m)
   rw [show k+m - k=m by omega] at hDl
   have hDs:(s.extract k (k+m)).size=m:=by simp;omega
   obtain ⟨D,hD⟩:∃ D,s.extract k (k+m)=D:=⟨_,rfl⟩
   rw [hD] at hDl hDs
   go_wp2_with (first
    | (go_at_call 51;refine hP.mono ?_;rintro e w' ⟨rfl,rfl⟩)
    | (go_at_call 49;refine hB.mono ?_;rintro e w1 ⟨rfl,hb⟩))
   go_loopg [8,10] m (fun g n _ wx=>∃ i:Nat,i+g=m∧n=.int .i64 (pcVal (D.data.toList.take i):Nat)∧wx=w1.iter D i)
   case atStart=>exact ⟨0,by omega,rfl,rfl⟩
   case round=>
    obtain ⟨i,hig,rfl,rfl⟩:=hrel
    cases gk with
    | zero=>
     obtain rfl:i=m:=by omega
     have hnx:=fun ty=>run_next_end (P:=Tryz.prog) w1 D i ty (by omega)
     go_wp2
     go_ret3
     refine ⟨?_,hb.alloc hb.size _⟩
     rw [HR.out,if_neg h0,if_neg h9,←hDl,List.take_of_length_le (by rw [←size_list,hDs];exact Nat.le_refl _)]
     rfl
    | succ g=>
     have hi:i < D.size:=by omega
     have hx:D.data.toList[i]?=some D[i]:=Lib.data_getElem? D i hi
     have hdig:pcDigits.contains D[i]=true:=HB.out i D[i] (by omega) (by rw [hDl,List.getElem?_take_of_lt (by omega)] at hx;exact hx)
     rw [pcDigits_iff] at hdig
     simp only [Bool.and_eq_true,decide_eq_true_eq] at hdig
     have hnx:=fun ty=>run_next_ascii (P:=Tryz.prog) w1 D i ty hi (by omega)
     have hlt:pcVal (D.data.toList.take i) < 1000000000:=by
      refine pcVal_nine _ (fun b hb=>?_) (by rw [List.length_take];omega)
      obtain ⟨j,hj,he⟩:=List.mem_iff_getElem.1 hb
      rw [List.length_take] at hj
      have hj2:j < D.data.toList.length:=by omega
      refine HB.out j b (by omega) ?_
      have h3:D.data.toList[j]?=some b:=by rw [List.getElem?_eq_getElem hj2,←he,List.getElem_take]
      rw [hDl,List.getElem?_take_of_lt (by omega)] at h3
      exact h3
     have Hn:=Lib.hid (show pcVal (D.data.toList.take (i+1))=pcVal (D.data.toList.take i) * 10+(D[i].toNat - 48) by
      rw [List.take_add_one,hx,Option.toList_some,pcVal_snoc])
     obtain ⟨v,hv⟩:∃ v,pcVal (D.data.toList.take i)=v:=⟨_,rfl⟩
     rw [hv] at hlt Hn ⊢
     clear hx hv
     have W1:IntKind.i64.wrap (10 * (v:Int))=10 * (v:Int):=IntWalk.i64_in _ (by omega)
     go_wp2
     go_roundg g
     case measure=>omega
     case rel=>
      refine ⟨i+1,by omega,?_,rfl⟩
      rw [Hn.out]
      exact congrArg (Value.int .i64) (by omega)
end Go.Proofs.YtbgfankoojjejaaGreatDoor
namespace Go.Proofs.YtbgfankoojjejaaGreatDoor
open Go.RowKit
theorem bat_below {T e:TypeId} {B b:Nat} {p:Value} {bs:List Value} {W W':World} (h:Lib.BuilderAtF T e B b p bs W) (hb:Below W.heap.size W W'):Lib.BuilderAtF T e B b p bs W':=by
 obtain ⟨hB,v,hv,⟨hl,hr⟩,hne⟩:=h
 refine ⟨hB,v,by rw [hb.block b (Array.getElem?_eq_some_iff.1 hv).1];exact hv,⟨hl,?_⟩,hne⟩
 rcases hr with h | ⟨g,cap,cur,fz,h1,h2,h3,h4⟩
 ·exact .inl h
 ·exact .inr ⟨g,cap,cur,fz,h1,h2,by rw [hb.block g (Array.getElem?_eq_some_iff.1 h3).1];exact h3,h4⟩
theorem isb_below {T e:TypeId} {B b:Nat} {bs:List Value} {W W':World} (h:Lib.IsBuilderF T e B b bs W) (hb:Below W.heap.size W W'):Lib.IsBuilderF T e B b bs W':=
 h.elim (fun x=>.inl (bat_below x hb)) (fun x=>.inr (bat_below x hb))
structure GP (w:World):Prop where
 c0:w.cell? ⟨0,0,none⟩=some (.int .u8 94)
 c1:w.cell? ⟨0,1,none⟩=some (.int .u8 93)
 lt:0 < w.heap.size
theorem GP.below {w w':World} {B:Nat} (h:GP w) (hb:Below B w w') (hB:0 < B):GP w':=
 ⟨(hb.cell (p:=⟨0,0,none⟩) hB).trans h.c0,(hb.cell (p:=⟨0,1,none⟩) hB).trans h.c1,Nat.lt_of_lt_of_le h.lt hb.size⟩
theorem GP.up {w w':World} (h:GP w) (hb:Below w.heap.size w w'):GP w':=h.below hb h.lt
theorem txt_eq {s:ByteArray} {l:List UInt8} (h:s.data.toList=l):s=txt l:=by rw [←h,txt_of]
theorem pescaped_at (s:ByteArray) (k:Nat) (d:UInt8) (rx:Bool) (w:World) (hs:s.size≤4000000) (hk:k < s.size) (h92:s[k]=92) :
  Calls Tryz.prog 83 #[.string s,.int .i64 k,.int .u8 d.toNat,.bool rx] w fun e w'=>e=pcA (pcPart d rx 92 (s.data.toList.drop (k+1)) k)∧Below w.heap.size w w':=by
 have W2:IntKind.i64.wrap ((k:Int)+2)=(k:Int)+2:=IntWalk.i64_in _ (by omega)
 have W1:IntKind.i64.wrap ((k:Int)+1)=(k:Int)+1:=IntWalk.i64_in _ (by omega)
 obtain ⟨R,hR⟩:∃ R,pcPart d rx 92 (s.data.toList.drop (k+1)) k=R:=⟨_,rfl⟩
 rw [hR]
 have HR:=Lib.hid hR
 have H92:=Lib.hid h92
 clear hR h92
 go_enter Tryz.func83,Tryz.ntmps83
 by_cases hend:k+1 < s.size
 ·have c1:¬ (s.size:Int) < (k:Int)+2:=by omega
  have c1':(k:Int)+2≤(s.size:Int):=by omega
  have i1:(k:Int)+1 < (s.size:Int):=by omega
  have hd:=Lib.hid (drop_at s (k+1) hend)
  have hl1:=Lib.hid (extract_list2 s k (k+2))
  have hl2:=Lib.hid (extract_list2 s (k+1) (k+2))
  have hd0:=Lib.hid (drop_at s k hk)
  obtain ⟨x,hx⟩:∃ x,s[k+1]=x:=⟨_,rfl⟩
  have Hx:=Lib.hid hx
  have Hpart:=Lib.hid (show R=if x=d then ([x],k+2,0) else if (x == 10 && rx)=true then ([],k+1,2) else ([92,x],k+2,0) by
   rw [←HR.out,hd.out,Hx.out];rfl)
  by_cases hxd:x=d
  ·have q:((s[k+1].toNat:Int) == (d.toNat:Int))=true:=by rw [hx,hxd];simp
   have Hxd:=Lib.hid hxd
   clear hx hxd
   go_wp2
   go_ret3
   refine ⟨?_,Below.refl _ _⟩
   rw [Hpart.out,if_pos Hxd.out]
   exact pcA_mk (txt_eq (by rw [hl2.out,hd.out,Hx.out,show k+2 - (k+1)=1 by omega];rfl)) rfl rfl
  ·have q:((s[k+1].toNat:Int) == (d.toNat:Int))=false:=beq_eq_false_iff_ne.2 fun h=>hxd (by rw [←hx];exact UInt8.toNat_inj.1 (by omega))
   have Hxd:=Lib.hid hxd
   clear hxd
   by_cases h10:x=10
   ·have q10:((s[k+1].toNat:Int) == 10)=true:=by rw [hx,h10];rfl
    have H10:=Lib.hid h10
    clear hx h10
    cases rx
    ·go_wp2
     go_ret3
     refine ⟨?_,Below.refl _ _⟩
     rw [Hpart.out,if_neg Hxd.out,if_neg (by simp)]
     exact pcA_mk (txt_eq (by rw [hl1.out,hd0.out,hd.out,Hx.out,show k+2 - k=2 by omega,H92.out];rfl)) rfl rfl
    ·go_wp2
     go_ret3
     refine ⟨?_,Below.refl _ _⟩
     rw [Hpart.out,if_neg Hxd.out,if_pos (by rw [H10.out];rfl)]
     rfl
   ·have q10:((s[k+1].toNat:Int) == 10)=false:=beq_eq_false_iff_ne.2 fun h=>h10 (by rw [←hx];exact UInt8.toNat_inj.1 (by show s[k+1].toNat=10;omega))
    have H10:=Lib.hid h10
    clear hx h10
    go_wp2
    go_ret3
    refine ⟨?_,Below.refl _ _⟩
    rw [Hpart.out,if_neg Hxd.out,if_neg (by simp [H10.out])]
    exact pcA_mk (txt_eq (by rw [hl1.out,hd0.out,hd.out,Hx.out,show k+2 - k=2 by omega,H92.out];rfl)) rfl rfl
 ·have c1:(s.size:Int) < (k:Int)+2:=by omega
  have hd:=Lib.hid (drop_end s (k+1) (by omega))
  have hse:(s.size:Int)=((k+1:Nat):Int):=by omega
  have Hse:=Lib.hid hse
  clear hse hend
  go_wp2
  go_ret3
  refine ⟨?_,Below.refl _ _⟩
  rw [←HR.out,hd.out]
  exact pcA_mk rfl Hse.out rfl
def pcAh (t:List UInt8) (i:Nat):Nat:=if i=0 then 0 else if i=1 then pcOpt 94 t else pcAhead t
theorem pcAh_le (t:List UInt8) (i:Nat):pcAh t i≤t.length:=by
 unfold pcAh
 split
 ·omega
 ·split
  ·exact pcOpt_le 94 t
  ·exact pcAhead_le t
theorem pcOpt_no {c:UInt8} {s:ByteArray} {p:Nat} (h:s.size≤p):pcOpt c (s.data.toList.drop p)=0:=by rw [drop_end s p h];rfl
theorem pcOpt_yes {c:UInt8} {s:ByteArray} {p:Nat} (h:p < s.size) (hc:s[p]=c):pcOpt c (s.data.toList.drop p)=1:=by rw [drop_at s p h];simp [pcOpt,hc]
theorem pcOpt_not {c:UInt8} {s:ByteArray} {p:Nat} (h:p < s.size) (hc:¬ s[p]=c):pcOpt c (s.data.toList.drop p)=0:=by rw [drop_at s p h];simp [pcOpt,hc]
theorem pcAh_succ (t:List UInt8) (i:Nat) (c:UInt8) (h:(i=0∧c=94)∨(i=1∧c=93)):pcAh t (i+1)=pcAh t i+pcOpt c (t.drop (pcAh t i)):=by
 rcases h with ⟨rfl,rfl⟩ | ⟨rfl,rfl⟩
 ·simp [pcAh]
 ·simp [pcAh,pcAhead]
theorem ahead_index0 (a b:Int) (w:World):(Instr.index 197 (.agg #[.int .u8 a,.int .u8 b]) (.int .i64 0)).run Tryz.prog w=.ok (.int .u8 a) w:=by kernel_rfl
theorem ahead_index1 (a b:Int) (w:World):(Instr.index 197 (.agg #[.int .u8 a,.int .u8 b]) (.int .i64 1)).run Tryz.prog w=.ok (.int .u8 b) w:=by kernel_rfl
theorem pbracketEnd_at (s:ByteArray) (k:Nat) (w:World) (hs:s.size≤4000000) (hk:k < s.size) (hG:GP w) :
  Calls Tryz.prog 84 #[.string s,.int .i64 k] w fun e w'=>e=.returned (.int .i64 ((k+pcBrk (s.data.toList.drop (k+1)):Nat):Int))∧Below w.heap.size w w':=by
 have W1:IntKind.i64.wrap ((k:Int)+1)=(k:Int)+1:=IntWalk.i64_in _ (by omega)
 have g0:=hG.c0
 have g1:=hG.c1
 have htl:(s.data.toList.drop (k+1)).length=s.size - (k+1):=by rw [List.length_drop,←size_list]
 obtain ⟨R,hR⟩:∃ R,k+pcBrk (s.data.toList.drop (k+1))=R:=⟨_,rfl⟩
 rw [hR]
 have HR:=Lib.hid hR
 clear hR
 go_enter Tryz.func84,Tryz.ntmps84
 go_wp2
 go_loopg [1,6,11] 2 (fun g a _ j wx=>∃ i:Nat,i+g=2∧j=.int .i64 i∧a=.int .i64 ((k+1+pcAh (s.data.toList.drop (k+1)) i:Nat):Int)∧wx=w)
 case atStart=>exact ⟨0,by omega,rfl,by simp [pcAh],rfl⟩
 case round=>
  obtain ⟨i,hig,rfl,rfl,rfl⟩:=hrel
  have hah:=pcAh_le (s.data.toList.drop (k+1)) i
  obtain ⟨p,hp⟩:∃ p,k+1+pcAh (s.data.toList.drop (k+1)) i=p:=⟨_,rfl⟩
  rw [hp]
  have hps:p≤s.size:=by omega
  cases gk with
  | zero=>
   obtain rfl:i=2:=by omega
   have hI:=indexByte_k (s.extract p s.size) 93 wr
   rw [extractEnd_list,index_len] at hI
   rw [show (((93:UInt8).toNat:Nat):Int)=93 from rfl] at hI
   have hR2:R=k+(1+pcAhead (s.data.toList.drop (k+1))+min (pcLen (fun b=>!(b == 93)) (s.data.toList.drop p)+1) (s.data.toList.drop p).length):=by
    rw [←HR.out,pcBrk,List.drop_drop,←hp]
    rfl
   rw [show pcAh (s.data.toList.drop (k+1)) 2=pcAhead (s.data.toList.drop (k+1)) from rfl] at hp
   have hle:=pcLen_le (fun b=>!(b == 93)) (s.data.toList.drop p)
   have hlen:(s.data.toList.drop p).length=s.size - p:=by rw [List.length_drop,←size_list]
   rw [hlen] at hI hR2 hle
   generalize pcLen (fun b=>!(b == 93)) (s.data.toList.drop p)=m at hI hR2 hle
   have hps':(p:Int)≤(s.size:Int):=by omega
   clear hlen hah
   by_cases hm:m < s.size - p
   ·rw [if_pos hm] at hI
    have h0:(0:Int)≤(m:Int):=by omega
    have Wa:IntKind.i64.wrap ((p:Int)+(m:Int))=(p:Int)+(m:Int):=IntWalk.i64_in _ (by omega)
    have Wb:IntKind.i64.wrap ((p:Int)+(m:Int)+1)=(p:Int)+(m:Int)+1:=IntWalk.i64_in _ (by omega)
    have hRi:(R:Int)=(p:Int)+(m:Int)+1:=by omega
    have HRi:=Lib.hid hRi
    clear hRi hR2 hp
    go_wp2_with (go_at_call 85;refine hI.mono ?_;rintro e w1 ⟨rfl,rfl⟩)
    go_ret
    exact ⟨by rw [HRi.out];rfl,Below.refl _ _⟩
   ·rw [if_neg hm] at hI
    have hRi:(R:Int)=(s.size:Int):=by omega
    have HRi:=Lib.hid hRi
    clear hRi hR2 hp
    go_wp2_with (go_at_call 85;refine hI.mono ?_;rintro e w1 ⟨rfl,rfl⟩)
    go_ret
    exact ⟨by rw [HRi.out];rfl,Below.refl _ _⟩
  | succ g=>
   have e0:=fun w=>ahead_index0 94 93 w
   have e1:=fun w=>ahead_index1 94 93 w
   rcases (by omega:i=0∨i=1) with rfl | rfl
   ·obtain rfl:g=1:=by omega
    have hnx:pcAh (s.data.toList.drop (k+1)) 1=pcAh (s.data.toList.drop (k+1)) 0+pcOpt 94 ((s.data.toList.drop (k+1)).drop (pcAh (s.data.toList.drop (k+1)) 0)):=pcAh_succ _ 0 94 (by simp)
    rw [List.drop_drop,hp] at hnx
    have Hnx:=Lib.hid hnx
    have Hp:=Lib.hid hp
    clear hnx hp hah
    by_cases hlt:p < s.size
    ·have hlti:(p:Int) < (s.size:Int):=by omega
     by_cases hx:s[p]=94
     ·have q:((s[p].toNat:Int) == 94)=true:=by rw [hx];rfl
      have Ho:=Lib.hid (pcOpt_yes (c:=94) hlt hx)
      have W3:IntKind.i64.wrap ((p:Int)+1)=(p:Int)+1:=IntWalk.i64_in _ (by omega)
      clear hx
      go_wp2
      go_roundg 1
      case measure=>omega
      case rel=>exact ⟨1,by omega,rfl,congrArg (Value.int .i64) (by have h1:=Hnx.out;rw [Ho.out] at h1;have h2:=Hp.out;omega),rfl⟩
     ·have q:((s[p].toNat:Int) == 94)=false:=beq_eq_false_iff_ne.2 fun h=>hx (UInt8.toNat_inj.1 (by show s[p].toNat=94;omega))
      have Ho:=Lib.hid (pcOpt_not (c:=94) hlt hx)
      clear hx
      go_wp2
      go_roundg 1
      case measure=>omega
      case rel=>exact ⟨1,by omega,rfl,congrArg (Value.int .i64) (by have h1:=Hnx.out;rw [Ho.out] at h1;have h2:=Hp.out;omega),rfl⟩
    ·have hlti:¬ (p:Int) < (s.size:Int):=by omega
     have Ho:=Lib.hid (pcOpt_no (c:=94) (s:=s) (p:=p) (by omega))
     go_wp2
     go_roundg 1
     case measure=>omega
     case rel=>exact ⟨1,by omega,rfl,congrArg (Value.int .i64) (by have h1:=Hnx.out;rw [Ho.out] at h1;have h2:=Hp.out;omega),rfl⟩
   ·obtain rfl:g=0:=by omega
    have hnx:pcAh (s.data.toList.drop (k+1)) 2=pcAh (s.data.toList.drop (k+1)) 1+pcOpt 93 ((s.data.toList.drop (k+1)).drop (pcAh (s.data.toList.drop (k+1)) 1)):=pcAh_succ _ 1 93 (by simp)
    rw [List.drop_drop,hp] at hnx
    have Hnx:=Lib.hid hnx
    have Hp:=Lib.hid hp
    clear hnx hp hah
    by_cases hlt:p < s.size
    ·have hlti:(p:Int) < (s.size:Int):=by omega
     by_cases hx:s[p]=93
     ·have q:((s[p].toNat:Int) == 93)=true:=by rw [hx];rfl
      have Ho:=Lib.hid (pcOpt_yes (c:=93) hlt hx)
      have W3:IntKind.i64.wrap ((p:Int)+1)=(p:Int)+1:=IntWalk.i64_in _ (by omega)
      clear hx
      go_wp2
      go_roundg 0
      case measure=>omega
      case rel=>exact ⟨2,by omega,rfl,congrArg (Value.int .i64) (by have h1:=Hnx.out;rw [Ho.out] at h1;have h2:=Hp.out;omega),rfl⟩
     ·have q:((s[p].toNat:Int) == 93)=false:=beq_eq_false_iff_ne.2 fun h=>hx (UInt8.toNat_inj.1 (by show s[p].toNat=93;omega))
      have Ho:=Lib.hid (pcOpt_not (c:=93) hlt hx)
      clear hx
      go_wp2
      go_roundg 0
      case measure=>omega
      case rel=>exact ⟨2,by omega,rfl,congrArg (Value.int .i64) (by have h1:=Hnx.out;rw [Ho.out] at h1;have h2:=Hp.out;omega),rfl⟩
    ·have hlti:¬ (p:Int) < (s.size:Int):=by omega
     have Ho:=Lib.hid (pcOpt_no (c:=93) (s:=s) (p:=p) (by omega))
     go_wp2
     go_roundg 0
     case measure=>omega
     case rel=>exact ⟨2,by omega,rfl,congrArg (Value.int .i64) (by have h1:=Hnx.out;rw [Ho.out] at h1;have h2:=Hp.out;omega),rfl⟩
theorem pparsePart_at (s:ByteArray) (k:Nat) (d:UInt8) (rx:Bool) (w:World) (hs:s.size≤4000000) (hk:k < s.size) (hG:GP w) :
  Calls Tryz.prog 61 #[.string s,.int .i64 k,.int .u8 d.toNat,.bool rx] w fun e w'=>e=pcA (pcPart d rx s[k] (s.data.toList.drop (k+1)) k)∧Below w.heap.size w w':=by
 have hki:(k:Int) < (s.size:Int):=by omega
 by_cases h92:s[k]=92
 ·have hE:=pescaped_at s k d rx w hs hk h92
  rw [←h92] at hE
  have q:((s[k].toNat:Int) == 92)=true:=by rw [h92];rfl
  clear h92
  generalize pcPart d rx s[k] (s.data.toList.drop (k+1)) k=R at hE ⊢
  go_enter Tryz.func61,Tryz.ntmps61
  go_wp2_with (go_at_call 83;refine hE.mono ?_;rintro e w1 ⟨rfl,hb⟩)
  go_ret3
  exact ⟨rfl,hb⟩
 ·have q:((s[k].toNat:Int) == 92)=false:=beq_eq_false_iff_ne.2 fun h=>h92 (UInt8.toNat_inj.1 (by show s[k].toNat=92;omega))
  have hB:=pbracketEnd_at s k w hs hk hG
  have hcc:∀ m,(if (rx && s[k] == 91)=true then pcBrk (s.data.toList.drop (k+1)) else 1)=m→1≤m∧k+m≤s.size→
    ∀ W,Calls Tryz.prog 85 #[.string (s.extract k (k+m)),.int .u8 10] W fun e w'=>e=.returned (.int .i64 (if pcLen (fun b=>!(b == 10)) ((s[k] :: s.data.toList.drop (k+1)).take m) < m then (pcLen (fun b=>!(b == 10)) ((s[k] :: s.data.toList.drop (k+1)).take m):Int) else -1))∧w'=W:=fun m _ hm W=>by
   have h:=indexByte_k (s.extract k (k+m)) 10 W
   rw [extract_list2,index_len,show k+m - k=m by omega,drop_at s k hk] at h
   rw [show (((s[k] :: s.data.toList.drop (k+1)).take m).length)=m by rw [List.length_take,List.length_cons,List.length_drop,←size_list];omega] at h
   exact h
  have htx:∀ m,(s.extract k (k+m)).data.toList=(s[k] :: s.data.toList.drop (k+1)).take m:=fun m=>by rw [extract_list2,show k+m - k=m by omega,drop_at s k hk]
  have hbl:=pcBrk_le (s.data.toList.drop (k+1))
  have hbp:=pcBrk_pos (s.data.toList.drop (k+1))
  rw [List.length_drop,←size_list] at hbl
  have Htx:=Lib.hid htx
  have Hcc:=Lib.hid hcc
  clear htx hcc
  obtain ⟨R,hR⟩:∃ R,pcPart d rx s[k] (s.data.toList.drop (k+1)) k=R:=⟨_,rfl⟩
  rw [hR]
  have HR:=Lib.hid (show R=(let m:=if (rx && s[k] == 91)=true then pcBrk (s.data.toList.drop (k+1)) else 1
   let i:=pcLen (fun b=>!(b == 10)) ((s[k] :: s.data.toList.drop (k+1)).take m)
   if i < m then ([],k+i,2) else ((s[k] :: s.data.toList.drop (k+1)).take m,k+m,0)) by rw [←hR];unfold pcPart;rw [if_neg h92])
  clear hR h92
  have Wk:IntKind.i64.wrap ((k:Int)+1)=(k:Int)+1:=IntWalk.i64_in _ (by omega)
  have tail:∀ m,(if (rx && s[k] == 91)=true then pcBrk (s.data.toList.drop (k+1)) else 1)=m→1≤m∧k+m≤s.size→
    ∃ i:Nat,i≤m∧(∀ W,Calls Tryz.prog 85 #[.string (s.extract k (k+m)),.int .u8 10] W fun e w'=>e=.returned (.int .i64 (if i < m then (i:Int) else -1))∧w'=W)∧
     Hid (R=if i < m then ([],k+i,2) else ((s[k] :: s.data.toList.drop (k+1)).take m,k+m,0)):=fun m hm1 hm2=>by
   refine ⟨pcLen (fun b=>!(b == 10)) ((s[k] :: s.data.toList.drop (k+1)).take m),?_,Hcc.out m hm1 hm2,Lib.hid (by rw [HR.out];simp only [hm1])⟩
   have:=pcLen_le (fun b=>!(b == 10)) ((s[k] :: s.data.toList.drop (k+1)).take m)
   have h2:=List.length_take_le m (s[k] :: s.data.toList.drop (k+1))
   omega
  clear HR Hcc
  by_cases h91:(rx && s[k] == 91)=true
  ·obtain ⟨i,hi,hI,HR⟩:=tail _ (if_pos h91) (by omega)
   clear tail
   simp only [Bool.and_eq_true] at h91
   obtain ⟨rfl,h91⟩:=h91
   have q91:((s[k].toNat:Int) == 91)=true:=by rw [eq_of_beq h91];rfl
   clear h91
   generalize pcBrk (s.data.toList.drop (k+1))=m at *
   have hm1:(k:Int)≤((k+m:Nat):Int):=by omega
   have hm2:((k+m:Nat):Int)≤(s.size:Int):=by omega
   obtain ⟨E,hE⟩:∃ E,k+m=E:=⟨_,rfl⟩
   rw [hE] at hB hI hm1 hm2 HR
   have hkE:k≤E:=by omega
   go_enter Tryz.func61,Tryz.ntmps61
   by_cases him:i < m
   ·rw [if_pos him] at hI
    have h0:(0:Int)≤(i:Int):=by omega
    have Wi:IntKind.i64.wrap ((k:Int)+(i:Int))=(k:Int)+(i:Int):=IntWalk.i64_in _ (by omega)
    have HRi:=Lib.hid (show R=([],k+i,2) by rw [HR.out,if_pos him])
    clear HR him hE
    go_wp2_with (first
     | (go_at_call 84;refine hB.mono ?_;rintro e w1 ⟨rfl,hb⟩)
     | (go_at_call 85;refine (hI _).mono ?_;rintro e w2 ⟨rfl,rfl⟩))
    go_ret3
    refine ⟨?_,hb⟩
    rw [HRi.out]
    exact pcA_mk rfl (by show (k:Int)+(i:Int)=((k+i:Nat):Int);omega) rfl
   ·rw [if_neg him] at hI
    have HRi:=Lib.hid (show R=((s[k] :: s.data.toList.drop (k+1)).take m,E,0) by rw [HR.out,if_neg him])
    have HE:=Lib.hid hE
    clear HR him hE
    go_wp2_with (first
     | (go_at_call 84;refine hB.mono ?_;rintro e w1 ⟨rfl,hb⟩)
     | (go_at_call 85;refine (hI _).mono ?_;rintro e w2 ⟨rfl,rfl⟩))
    go_ret3
    refine ⟨?_,hb⟩
    rw [HRi.out]
    exact pcA_mk (txt_eq (by rw [←HE.out];exact Htx.out m)) rfl rfl
  ·obtain ⟨i,hi,hI,HR⟩:=tail _ (if_neg h91) (by omega)
   clear tail hB hbl hbp hG
   have q91:rx=true→((s[k].toNat:Int) == 91)=false:=fun hrx=>by
    subst hrx
    exact beq_eq_false_iff_ne.2 fun h=>h91 (by
     have:s[k]=91:=UInt8.toNat_inj.1 (by show s[k].toNat=91;omega)
     rw [this];rfl)
   clear h91
   obtain ⟨E,hE⟩:∃ E,k+1=E:=⟨_,rfl⟩
   rw [hE] at hI HR
   have hEi:((k:Int)+1)=(E:Int):=by omega
   rw [hEi] at Wk
   have Wk':IntKind.i64.wrap ((k:Int)+1)=(E:Int):=by rw [hEi];exact Wk
   have hm1:(k:Int)≤(E:Int):=by omega
   have hm2:(E:Int)≤(s.size:Int):=by omega
   have hkE:k≤E:=by omega
   have HE:=Lib.hid hE
   clear hE hEi Wk
   by_cases him:i < 1
   ·rw [if_pos him] at hI
    have h0:(0:Int)≤(i:Int):=by omega
    have Wi:IntKind.i64.wrap ((k:Int)+(i:Int))=(k:Int)+(i:Int):=IntWalk.i64_in _ (by omega)
    have HRi:=Lib.hid (show R=([],k+i,2) by rw [HR.out,if_pos him])
    clear HR him
    go_enter Tryz.func61,Tryz.ntmps61
    cases rx
    ·go_wp2_with (go_at_call 85;refine (hI _).mono ?_;rintro e w2 ⟨rfl,rfl⟩)
     go_ret3
     refine ⟨?_,Below.refl _ _⟩
     rw [HRi.out]
     exact pcA_mk rfl (by show (k:Int)+(i:Int)=((k+i:Nat):Int);omega) rfl
    ·have q91':=q91 rfl
     clear q91
     go_wp2_with (go_at_call 85;refine (hI _).mono ?_;rintro e w2 ⟨rfl,rfl⟩)
     go_ret3
     refine ⟨?_,Below.refl _ _⟩
     rw [HRi.out]
     exact pcA_mk rfl (by show (k:Int)+(i:Int)=((k+i:Nat):Int);omega) rfl
   ·rw [if_neg him] at hI
    have HRi:=Lib.hid (show R=((s[k] :: s.data.toList.drop (k+1)).take 1,E,0) by rw [HR.out,if_neg him];rfl)
    clear HR him
    go_enter Tryz.func61,Tryz.ntmps61
    cases rx
    ·go_wp2_with (go_at_call 85;refine (hI _).mono ?_;rintro e w2 ⟨rfl,rfl⟩)
     go_ret3
     refine ⟨?_,Below.refl _ _⟩
     rw [HRi.out]
     exact pcA_mk (txt_eq (by rw [←HE.out];exact Htx.out 1)) rfl rfl
    ·have q91':=q91 rfl
     clear q91
     go_wp2_with (go_at_call 85;refine (hI _).mono ?_;rintro e w2 ⟨rfl,rfl⟩)
     go_ret3
     refine ⟨?_,Below.refl _ _⟩
     rw [HRi.out]
     exact pcA_mk (txt_eq (by rw [←HE.out];exact Htx.out 1)) rfl rfl
theorem pbetween_at (s:ByteArray) (k:Nat) (d:UInt8) (rx:Bool) (w:World) (hs:s.size≤4000000) (hk:k≤s.size) (hG:GP w) :
  Calls Tryz.prog 43 #[.string s,.int .i64 k,.int .u8 d.toNat,.bool rx] w fun e w'=>e=pcA (pcBtw d rx s.data.toList (s.size+1) k [])∧Below w.heap.size w w':=by
 have hP:=place_yes s k w hk
 obtain ⟨R,hR⟩:∃ R,pcBtw d rx s.data.toList (s.size+1) k []=R:=⟨_,rfl⟩
 rw [hR]
 have HR:=Lib.hid hR
 clear hR
 go_enter Tryz.func43,Tryz.ntmps43
 go_wp2_with (go_at_call 51;refine hP.mono ?_;rintro e w' ⟨rfl,rfl⟩)
 clear hP
 go_loopw [1,12,13,14] (fun i _ _ _ wr=>∃ (p n:Nat) (acc:List UInt8),p≤s.size∧s.size < p+n∧i=.int .i64 p∧Lib.IsBuilderF 102 5 w'.heap.size w'.heap.size (Lib.byteCells acc) wr∧Below w'.heap.size w' wr∧acc.length≤p∧pcBtw d rx s.data.toList n p acc=R) (fun i _ _ _ _=>s.size - (intOf i).toNat)
 case atStart=>exact ⟨k,s.size+1,[],hk,by omega,rfl,Lib.IsBuilderF.of (Lib.fresh_isBuilder 102 5 w'),(Below.refl _ w').alloc (Nat.le_refl _) _,by simp,HR.out⟩
 case round=>
  obtain ⟨p,n,acc,hp,hn,rfl,hI,hbw,hal,hacc⟩:=hrel
  obtain ⟨n,rfl⟩:∃ m,n=m+1:=⟨n - 1,by omega⟩
  have HA:=Lib.hid hacc
  clear hacc
  have hsz:=hbw.size
  by_cases hlt:p < s.size
  ·have hlti:(p:Int) < (s.size:Int):=by omega
   have Hd:=Lib.hid (drop_at s p hlt)
   by_cases hc:s[p]=d
   ·have q:((s[p].toNat:Int) == (d.toNat:Int))=true:=by rw [hc];simp
    have Hc:=Lib.hid hc
    clear hc
    have Wp:IntKind.i64.wrap ((p:Int)+1)=(p:Int)+1:=IntWalk.i64_in _ (by omega)
    have hS:=builderString_k w'.heap.size w'.heap.size acc wr hI hsz
    go_wp2_with (go_at_call 55;refine hS.mono ?_;rintro e W2 ⟨rfl,_,b2,_⟩)
    go_ret3
    refine ⟨?_,hbw.trans b2⟩
    rw [←HA.out,pcBtw_del (t:=s.data.toList.drop (p+1)) (by rw [Hd.out,Hc.out])]
    rfl
   ·have q:((s[p].toNat:Int) == (d.toNat:Int))=false:=beq_eq_false_iff_ne.2 fun h=>hc (UInt8.toNat_inj.1 (by omega))
    have hPP:=pparsePart_at s p d rx wr hs hlt (hG.below hbw hG.lt)
    obtain ⟨x,e,er,hx⟩:∃ x e er,pcPart d rx s[p] (s.data.toList.drop (p+1)) p=(x,e,er):=⟨_,_,_,rfl⟩
    rw [hx] at hPP
    have hxs:=txt_size x
    by_cases her:er=0
    ·subst her
     obtain ⟨h1,h2,h3⟩:=pcPart_ok hx
     rw [List.length_drop,←size_list] at h2
     have Hn:=Lib.hid (pcBtw_part (n:=n) (acc:=acc) (L:=s.data.toList) (p:=p) Hd.out hc hx)
     have hlen:(Lib.byteCells acc).length+(txt x).size≤140737488355328:=by rw [Lib.byteCells_length];omega
     clear hx hc
     go_wp2_with (first
      | (go_at_call 61;refine hPP.mono ?_;rintro e w1 ⟨rfl,b1⟩)
      | (go_at_call 62;refine (writeString_k w'.heap.size w'.heap.size _ _ _ (isb_below hI b1) hlen (Nat.le_trans hsz b1.size)).mono ?_;rintro e w2 ⟨rfl,h4,b2,_⟩))
     go_roundw
     case rel=>
      refine ⟨e,n,acc++x,by omega,by omega,rfl,?_,(hbw.trans (b1.mono hsz)).trans b2,by simp;omega,by rw [←Hn.out];exact HA.out⟩
      rw [Lib.byteCells_append]
      exact Or.inr h4
     case measure=>simp [intOf];omega
    ·obtain ⟨rfl,h2,h3⟩:=pcPart_err hx her
     have qe:(((er:Nat):Int) != 0)=true:=bne_iff_ne.2 (by omega)
     have Hn:=Lib.hid (pcBtw_err (n:=n) (acc:=acc) (L:=s.data.toList) (p:=p) Hd.out hc her hx)
     clear hx hc h3 her
     go_wp2_with (first
      | (go_at_call 61;refine hPP.mono ?_;rintro e w1 ⟨rfl,b1⟩))
     go_ret3
     refine ⟨?_,hbw.trans (b1.mono hsz)⟩
     rw [←HA.out,Hn.out]
     rfl
  ·have hlti:¬ (p:Int) < (s.size:Int):=by omega
   have Hd:=Lib.hid (drop_end s p (by omega))
   go_wp2
   go_ret3
   refine ⟨?_,hbw⟩
   rw [←HA.out,pcBtw_nil Hd.out]
   exact pcA_mk rfl rfl rfl
end Go.Proofs.YtbgfankoojjejaaGreatDoor
