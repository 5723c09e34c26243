/- The proof's texts PcLy, PcW: what the claim reaches of them. -/
import Derived.Shelf.Strings.SlTrimAscii
import Derived.Shelf.Strings.IndexAnyAll
import Derived.Shelf.Small.Strs
import Derived.Test.YtbgfankoojjejaaGreatDoorRp18
import Derived.Test.YtbgfankoojjejaaGreatDoorRp05
import Derived.WalkKit
import Derived.WalkSpells
import Derived.WalkLawsBesides
import Derived.BigCall
import Derived.BigQuiet
import Derived.Deep.QuietTactic
import Derived.Lib.Hide
set_option linter.unusedSimpArgs false
set_option linter.unusedVariables false
set_option maxHeartbeats 8000000
set_option maxRecDepth 1000000
namespace Go.Proofs.YtbgfankoojjejaaGreatDoor
open Go.RowKit Go.Shelf
set_option linter.unusedVariables false
def pren161 : Go.Shelf.Ren := ⟨fun | 119 => 116 | 137 => 85 | 151 => 95 | 152 => 91 | 161 => 70 | 197 => 94 | 217 => 102 | 224 => 117 | 225 => 118 | 227 => 74 | 228 => 93 | 231 => 72 | 233 => 75 | 235 => 77 | 260 => 119 | 266 => 121 | n => n, fun | 0 => 0 | 3 => 3 | 4 => 4 | 5 => 5 | 9 => 9 | 21 => 21 | 46 => 210 | 105 => 185 | 116 => 151 | 117 => 152 | 119 => 118 | 124 => 155 | 138 => 222 | 139 => 223 | n => n, fun | 3 => 2 | 4 => 3 | n => n⟩
theorem play161 : Go.Proofs.Lays.n161 Tryz.prog pren161 := {
 mixed := by kernel_rfl
 f119 := Tryz.func116.trans (congrArg some (by kernel_rfl))
 f137 := Tryz.func85.trans (congrArg some (by kernel_rfl))
 f151 := Tryz.func95.trans (congrArg some (by kernel_rfl))
 f152 := Tryz.func91.trans (congrArg some (by kernel_rfl))
 f161 := Tryz.func70.trans (congrArg some (by kernel_rfl))
 f197 := Tryz.func94.trans (congrArg some (by kernel_rfl))
 f217 := Tryz.func102.trans (congrArg some (by kernel_rfl))
 f224 := Tryz.func117.trans (congrArg some (by kernel_rfl))
 f225 := Tryz.func118.trans (congrArg some (by kernel_rfl))
 f227 := Tryz.func74.trans (congrArg some (by kernel_rfl))
 f228 := Tryz.func93.trans (congrArg some (by kernel_rfl))
 f231 := Tryz.func72.trans (congrArg some (by kernel_rfl))
 f233 := Tryz.func75.trans (congrArg some (by kernel_rfl))
 f235 := Tryz.func77.trans (congrArg some (by kernel_rfl))
 f260 := Tryz.func119.trans (congrArg some (by kernel_rfl))
 f266 := Tryz.func121.trans (congrArg some (by kernel_rfl))
 t0 := Tryz.underlying0
 a0 := Tryz.isAgg0
 z0 := Tryz.sizeOf0
 v0 := Tryz.zeroValue0
 t3 := Tryz.underlying3
 a3 := Tryz.isAgg3
 z3 := Tryz.sizeOf3
 v3 := Tryz.zeroValue3
 t4 := Tryz.underlying4
 a4 := Tryz.isAgg4
 z4 := Tryz.sizeOf4
 v4 := Tryz.zeroValue4
 t5 := Tryz.underlying5
 a5 := Tryz.isAgg5
 z5 := Tryz.sizeOf5
 v5 := Tryz.zeroValue5
 t9 := Tryz.underlying9
 a9 := Tryz.isAgg9
 z9 := Tryz.sizeOf9
 v9 := Tryz.zeroValue9
 t21 := Tryz.underlying21
 a21 := Tryz.isAgg21
 z21 := Tryz.sizeOf21
 v21 := Tryz.zeroValue21
 t46 := Tryz.underlying210
 a46 := Tryz.isAgg210
 z46 := Tryz.sizeOf210
 v46 := Tryz.zeroValue210
 t105 := Tryz.underlying185
 a105 := Tryz.isAgg185
 z105 := Tryz.sizeOf185
 v105 := Tryz.zeroValue185
 t116 := Tryz.underlying151
 a116 := Tryz.isAgg151
 z116 := Tryz.sizeOf151
 t117 := Tryz.underlying152
 a117 := Tryz.isAgg152
 z117 := Tryz.sizeOf152
 v117 := Tryz.zeroValue152
 t119 := Tryz.underlying118
 a119 := Tryz.isAgg118
 z119 := Tryz.sizeOf118
 t124 := Tryz.underlying155
 a124 := Tryz.isAgg155
 z124 := Tryz.sizeOf155
 v124 := Tryz.zeroValue155
 t138 := Tryz.underlying222
 a138 := Tryz.isAgg222
 z138 := Tryz.sizeOf222
 v138 := Tryz.zeroValue222
 t139 := Tryz.underlying223
 a139 := Tryz.isAgg223
 z139 := Tryz.sizeOf223
 v139 := Tryz.zeroValue223
 g3 := by kernel_rfl
 g4 := by kernel_rfl
}
def pren160 : Go.Shelf.Ren := ⟨fun | 119 => 116 | 120 => 120 | 137 => 85 | 151 => 95 | 152 => 91 | 160 => 53 | 197 => 94 | 217 => 102 | 224 => 117 | 225 => 118 | 227 => 74 | 228 => 93 | 231 => 72 | 232 => 73 | 233 => 75 | 234 => 76 | 235 => 77 | 236 => 78 | 260 => 119 | 266 => 121 | 271 => 96 | n => n, fun | 0 => 0 | 3 => 3 | 4 => 4 | 5 => 5 | 9 => 9 | 21 => 21 | 46 => 210 | 105 => 185 | 116 => 151 | 117 => 152 | 119 => 118 | 124 => 155 | 138 => 222 | 139 => 223 | n => n, fun | 3 => 2 | 4 => 3 | n => n⟩
theorem play160 : Go.Proofs.Lays.n160 Tryz.prog pren160 := {
 mixed := by kernel_rfl
 f119 := Tryz.func116.trans (congrArg some (by kernel_rfl))
 f120 := Tryz.func120.trans (congrArg some (by kernel_rfl))
 f137 := Tryz.func85.trans (congrArg some (by kernel_rfl))
 f151 := Tryz.func95.trans (congrArg some (by kernel_rfl))
 f152 := Tryz.func91.trans (congrArg some (by kernel_rfl))
 f160 := Tryz.func53.trans (congrArg some (by kernel_rfl))
 f197 := Tryz.func94.trans (congrArg some (by kernel_rfl))
 f217 := Tryz.func102.trans (congrArg some (by kernel_rfl))
 f224 := Tryz.func117.trans (congrArg some (by kernel_rfl))
 f225 := Tryz.func118.trans (congrArg some (by kernel_rfl))
 f227 := Tryz.func74.trans (congrArg some (by kernel_rfl))
 f228 := Tryz.func93.trans (congrArg some (by kernel_rfl))
 f231 := Tryz.func72.trans (congrArg some (by kernel_rfl))
 f232 := Tryz.func73.trans (congrArg some (by kernel_rfl))
 f233 := Tryz.func75.trans (congrArg some (by kernel_rfl))
 f234 := Tryz.func76.trans (congrArg some (by kernel_rfl))
 f235 := Tryz.func77.trans (congrArg some (by kernel_rfl))
 f236 := Tryz.func78.trans (congrArg some (by kernel_rfl))
 f260 := Tryz.func119.trans (congrArg some (by kernel_rfl))
 f266 := Tryz.func121.trans (congrArg some (by kernel_rfl))
 f271 := Tryz.func96.trans (congrArg some (by kernel_rfl))
 t0 := Tryz.underlying0
 a0 := Tryz.isAgg0
 z0 := Tryz.sizeOf0
 v0 := Tryz.zeroValue0
 t3 := Tryz.underlying3
 a3 := Tryz.isAgg3
 z3 := Tryz.sizeOf3
 v3 := Tryz.zeroValue3
 t4 := Tryz.underlying4
 a4 := Tryz.isAgg4
 z4 := Tryz.sizeOf4
 v4 := Tryz.zeroValue4
 t5 := Tryz.underlying5
 a5 := Tryz.isAgg5
 z5 := Tryz.sizeOf5
 v5 := Tryz.zeroValue5
 t9 := Tryz.underlying9
 a9 := Tryz.isAgg9
 z9 := Tryz.sizeOf9
 v9 := Tryz.zeroValue9
 t21 := Tryz.underlying21
 a21 := Tryz.isAgg21
 z21 := Tryz.sizeOf21
 v21 := Tryz.zeroValue21
 t46 := Tryz.underlying210
 a46 := Tryz.isAgg210
 z46 := Tryz.sizeOf210
 v46 := Tryz.zeroValue210
 t105 := Tryz.underlying185
 a105 := Tryz.isAgg185
 z105 := Tryz.sizeOf185
 v105 := Tryz.zeroValue185
 t116 := Tryz.underlying151
 a116 := Tryz.isAgg151
 z116 := Tryz.sizeOf151
 t117 := Tryz.underlying152
 a117 := Tryz.isAgg152
 z117 := Tryz.sizeOf152
 v117 := Tryz.zeroValue152
 t119 := Tryz.underlying118
 a119 := Tryz.isAgg118
 z119 := Tryz.sizeOf118
 t124 := Tryz.underlying155
 a124 := Tryz.isAgg155
 z124 := Tryz.sizeOf155
 v124 := Tryz.zeroValue155
 t138 := Tryz.underlying222
 a138 := Tryz.isAgg222
 z138 := Tryz.sizeOf222
 v138 := Tryz.zeroValue222
 t139 := Tryz.underlying223
 a139 := Tryz.isAgg223
 z139 := Tryz.sizeOf223
 v139 := Tryz.zeroValue223
 g3 := by kernel_rfl
 g4 := by kernel_rfl
}
def pren153 : Go.Shelf.Ren := ⟨fun | 119 => 116 | 137 => 85 | 152 => 91 | 153 => 71 | 217 => 102 | 224 => 117 | 225 => 118 | 226 => 92 | 227 => 74 | 228 => 93 | 266 => 121 | n => n, fun | 0 => 0 | 3 => 3 | 4 => 4 | 5 => 5 | 9 => 9 | 21 => 21 | 46 => 210 | 116 => 151 | 117 => 152 | 124 => 155 | n => n, fun  | n => n⟩
theorem play153 : Go.Proofs.Lays.n153 Tryz.prog pren153 := {
 mixed := by kernel_rfl
 f119 := Tryz.func116.trans (congrArg some (by kernel_rfl))
 f137 := Tryz.func85.trans (congrArg some (by kernel_rfl))
 f152 := Tryz.func91.trans (congrArg some (by kernel_rfl))
 f153 := Tryz.func71.trans (congrArg some (by kernel_rfl))
 f217 := Tryz.func102.trans (congrArg some (by kernel_rfl))
 f224 := Tryz.func117.trans (congrArg some (by kernel_rfl))
 f225 := Tryz.func118.trans (congrArg some (by kernel_rfl))
 f226 := Tryz.func92.trans (congrArg some (by kernel_rfl))
 f227 := Tryz.func74.trans (congrArg some (by kernel_rfl))
 f228 := Tryz.func93.trans (congrArg some (by kernel_rfl))
 f266 := Tryz.func121.trans (congrArg some (by kernel_rfl))
 t0 := Tryz.underlying0
 a0 := Tryz.isAgg0
 z0 := Tryz.sizeOf0
 v0 := Tryz.zeroValue0
 t3 := Tryz.underlying3
 a3 := Tryz.isAgg3
 z3 := Tryz.sizeOf3
 v3 := Tryz.zeroValue3
 t4 := Tryz.underlying4
 a4 := Tryz.isAgg4
 z4 := Tryz.sizeOf4
 v4 := Tryz.zeroValue4
 t5 := Tryz.underlying5
 a5 := Tryz.isAgg5
 z5 := Tryz.sizeOf5
 v5 := Tryz.zeroValue5
 t9 := Tryz.underlying9
 a9 := Tryz.isAgg9
 z9 := Tryz.sizeOf9
 v9 := Tryz.zeroValue9
 t21 := Tryz.underlying21
 a21 := Tryz.isAgg21
 z21 := Tryz.sizeOf21
 v21 := Tryz.zeroValue21
 t46 := Tryz.underlying210
 a46 := Tryz.isAgg210
 z46 := Tryz.sizeOf210
 v46 := Tryz.zeroValue210
 t116 := Tryz.underlying151
 a116 := Tryz.isAgg151
 z116 := Tryz.sizeOf151
 t117 := Tryz.underlying152
 a117 := Tryz.isAgg152
 z117 := Tryz.sizeOf152
 v117 := Tryz.zeroValue152
 t124 := Tryz.underlying155
 a124 := Tryz.isAgg155
 z124 := Tryz.sizeOf155
 v124 := Tryz.zeroValue155
}
def pren137 : Go.Shelf.Ren := ⟨fun | 137 => 85 | 217 => 102 | 266 => 121 | n => n, fun | 3 => 3 | 5 => 5 | 9 => 9 | n => n, fun  | n => n⟩
theorem play137 : Go.Proofs.Lays.n137 Tryz.prog pren137 := {
 mixed := by kernel_rfl
 f137 := Tryz.func85.trans (congrArg some (by kernel_rfl))
 f217 := Tryz.func102.trans (congrArg some (by kernel_rfl))
 f266 := Tryz.func121.trans (congrArg some (by kernel_rfl))
 t3 := Tryz.underlying3
 a3 := Tryz.isAgg3
 z3 := Tryz.sizeOf3
 v3 := Tryz.zeroValue3
 t5 := Tryz.underlying5
 a5 := Tryz.isAgg5
 z5 := Tryz.sizeOf5
 v5 := Tryz.zeroValue5
 t9 := Tryz.underlying9
 a9 := Tryz.isAgg9
 z9 := Tryz.sizeOf9
 v9 := Tryz.zeroValue9
}
def bren166 : Go.Shelf.Ren := ⟨fun | 166 => 62 | 240 => 79 | 276 => 97 | n => n, fun | 0 => 0 | 3 => 3 | 4 => 4 | 5 => 5 | 9 => 9 | 20 => 20 | 37 => 22 | 70 => 100 | 72 => 102 | 75 => 104 | 80 => 106 | 164 => 188 | n => n, fun  | n => n⟩
theorem blays166 : Go.Proofs.Lays.n166 Tryz.prog bren166 := {
 mixed := by kernel_rfl
 f166 := Tryz.func62.trans (congrArg some (by kernel_rfl))
 f240 := Tryz.func79.trans (congrArg some (by kernel_rfl))
 f276 := Tryz.func97.trans (congrArg some (by kernel_rfl))
 t0 := Tryz.underlying0
 a0 := Tryz.isAgg0
 z0 := Tryz.sizeOf0
 v0 := Tryz.zeroValue0
 t3 := Tryz.underlying3
 a3 := Tryz.isAgg3
 z3 := Tryz.sizeOf3
 v3 := Tryz.zeroValue3
 t4 := Tryz.underlying4
 a4 := Tryz.isAgg4
 z4 := Tryz.sizeOf4
 v4 := Tryz.zeroValue4
 t9 := Tryz.underlying9
 a9 := Tryz.isAgg9
 z9 := Tryz.sizeOf9
 v9 := Tryz.zeroValue9
 t20 := Tryz.underlying20
 a20 := Tryz.isAgg20
 z20 := Tryz.sizeOf20
 v20 := Tryz.zeroValue20
 t37 := Tryz.underlying22
 a37 := Tryz.isAgg22
 z37 := Tryz.sizeOf22
 v37 := Tryz.zeroValue22
 t70 := Tryz.underlying100
 a70 := Tryz.isAgg100
 z70 := Tryz.sizeOf100
 v70 := Tryz.zeroValue100
 t72 := Tryz.underlying102
 a72 := Tryz.isAgg102
 z72 := Tryz.sizeOf102
 v72 := Tryz.zeroValue102
 t75 := Tryz.underlying104
 a75 := Tryz.isAgg104
 z75 := Tryz.sizeOf104
 v75 := Tryz.zeroValue104
 t164 := Tryz.underlying188
 a164 := Tryz.isAgg188
 z164 := Tryz.sizeOf188
 v164 := Tryz.zeroValue188
}
theorem bextra166 : Builder.Extra Tryz.prog bren166 := {
 sizeBuilder := by kernel_rfl
 liesBuilder := by kernel_rfl
 t5 := Tryz.underlying5
 a5 := Tryz.isAgg5
 z5 := Tryz.sizeOf5
 v5 := Tryz.zeroValue5
 infoByte := by kernel_rfl
 cellsByte := by kernel_rfl
 sizeByte := by kernel_rfl
 neB5 := by decide }
theorem writeString_k (B b : Nat) (bs : List Value) (s : ByteArray) (w : World) (h : Lib.IsBuilderF 102 5 B b bs w) (hlen : bs.length + s.size ≤ 140737488355328) (hBw : B ≤ w.heap.size) :
  Calls Tryz.prog 62 #[.pointer (some ⟨b, 0, none⟩), .string s] w fun e w' => e = .returned (.tuple #[.int .i64 s.size, .nilIface]) ∧ (Lib.BuilderAtF 102 5 B b (.pointer (some ⟨b, 0, none⟩)) (bs ++ Lib.byteCells s.data.toList) w' ∧ Below B w w' ∧ Lib.OthersKept 5 (some b) w w') :=
 Any.Builder_WriteString_k blays166 bextra166 B b bs s w h hlen hBw
theorem trimLeft_k (s cutset : ByteArray) (w : World) (hcs : cutset.size < 4294967281) (ha : ∀ (j : Nat) b, cutset.data.toList[j]? = some b → b.toNat < 128) :
  Calls Tryz.prog 70 #[.string s, .string cutset] w fun e w' => e = .returned (.string (txt (Lib.trimLeftS s.data.toList cutset.data.toList))) ∧ Below w.heap.size w w' :=
 Any.strings_TrimLeft_laid play161 (by kernel_rfl) s cutset w hcs ha
theorem trim_k (s cutset : ByteArray) (w : World) (hs : s.size ≤ 9223372036854775807) (hcs : cutset.size < 4294967281) (ha : ∀ (j : Nat) b, cutset.data.toList[j]? = some b → b.toNat < 128) :
  Calls Tryz.prog 53 #[.string s, .string cutset] w fun e w' => e = .returned (.string (txt (Lib.trimS s.data.toList cutset.data.toList))) ∧ Below w.heap.size w w' :=
 Any.strings_Trim_laid play160 (by kernel_rfl) s cutset w hs hcs ha
theorem indexByte_k (s : ByteArray) (c : UInt8) (w : World) :
  Calls Tryz.prog 85 #[.string s, .int .u8 c.toNat] w fun e w' => e = .returned (.int .i64 (Lib.indexByte s.data.toList c)) ∧ w' = w := by
 have h := Any.strings_IndexByte play137 s c.toNat w
 rw [Lib.byte_back'] at h
 exact h
theorem indexAny_one (s chars : ByteArray) (w : World) (h1 : chars.size = 1) (ha : ∀ (j : Nat) b, chars.data.toList[j]? = some b → b.toNat < 128) :
  Calls Tryz.prog 71 #[.string s, .string chars] w fun e w' => e = .returned (.int .i64 (Lib.indexAny s.data.toList chars.data.toList)) ∧ w' = w :=
 Any.strings_IndexAny_one play153 s chars w h1 ha
theorem indexAny_long (s chars : ByteArray) (w : World) (h2 : 2 ≤ chars.size) (h8 : 8 < s.size) (hs : s.size < 4294967281) (hcs : chars.size < 4294967281) (ha : ∀ (j : Nat) b, chars.data.toList[j]? = some b → b.toNat < 128) :
  Calls Tryz.prog 71 #[.string s, .string chars] w fun e w' => e = .returned (.int .i64 (Lib.indexAny s.data.toList chars.data.toList)) ∧ Below w.heap.size w w' := by
 have h116 : (Tryz.prog.info? (pren153.t 116)).map (fun i => (i.zero, i.size)) = some (some (.agg (Array.replicate 256 (.bool false))), 256) := by kernel_rfl
 refine (Any.strings_IndexAny_long play153 (zero_of_info h116).1 (zero_of_info h116).2 s chars w h2 h8 hs hcs ha).mono fun e w' ⟨h1, h2⟩ => ⟨h1, ?_⟩
 rw [h2]
 exact ((Below.refl _ _).alloc (Nat.le_refl _) _).alloc (by simp) _
end Go.Proofs.YtbgfankoojjejaaGreatDoor
namespace Go.Proofs.YtbgfankoojjejaaGreatDoor
open Go.RowKit
theorem extractEnd_list (s : ByteArray) (k : Nat) : (s.extract k s.size).data.toList = s.data.toList.drop k := Lib.extract_to_end s k
theorem extract_list2 (s : ByteArray) (k e : Nat) : (s.extract k e).data.toList = (s.data.toList.drop k).take (e - k) := by
 rw [ByteArray.data_extract, Array.toList_extract, List.extract_eq_take_drop]
theorem place_yes (s : ByteArray) (k : Nat) (w : World) (h : k ≤ s.size) : Calls Tryz.prog 51 #[.string s, .int .i64 k] w fun e w' => e = .returned (.bool true) ∧ w' = w := by
 go_enter Tryz.func51, Tryz.ntmps51
 have h0 : (0 : Int) ≤ (k : Int) := by omega
 have h1 : (k : Int) ≤ (s.size : Int) := by omega
 go_wp2
 go_ret
 exact ⟨rfl, rfl⟩
theorem place_no (s : ByteArray) (a : Int) (w : World) (h : ¬ (0 ≤ a ∧ a ≤ (s.size : Int))) : Calls Tryz.prog 51 #[.string s, .int .i64 a] w fun e w' => e = .returned (.bool false) ∧ w' = w := by
 go_enter Tryz.func51, Tryz.ntmps51
 by_cases h0 : (0 : Int) ≤ a
 ·have h1 : ¬ a ≤ (s.size : Int) := fun h1 => h ⟨h0, h1⟩
  clear h
  go_wp2
  go_ret
  exact ⟨rfl, rfl⟩
 ·clear h
  go_wp2
  go_ret
  exact ⟨rfl, rfl⟩
theorem pbehind_at (s cs : ByteArray) (k : Nat) (w : World) (hs : s.size ≤ 4000000) (hk : k ≤ s.size) (hcs : cs.size < 4294967281) (ha : ∀ (j : Nat) b, cs.data.toList[j]? = some b → b.toNat < 128) :
  Calls Tryz.prog 49 #[.string s, .int .i64 k, .string cs] w fun e w' => e = .returned (.int .i64 ((k + pcIs cs.data.toList (s.data.toList.drop k) : Nat) : Int)) ∧ Below w.heap.size w w' := by
 have hP := place_yes s k w hk
 have hT := trimLeft_k (s.extract k s.size) cs w hcs ha
 rw [extractEnd_list] at hT
 have ht := pcIs_trim cs.data.toList (s.data.toList.drop k)
 rw [List.length_drop, ← size_list] at ht
 obtain ⟨m, hm⟩ : ∃ m, pcIs cs.data.toList (s.data.toList.drop k) = m := ⟨_, rfl⟩
 rw [hm] at ht ⊢
 obtain ⟨r, hr⟩ : ∃ r, txt (Lib.trimLeftS (s.data.toList.drop k) cs.data.toList) = r := ⟨_, rfl⟩
 have hrs : r.size + m = s.size - k := by rw [← hr, txt_size]; exact ht
 rw [hr] at hT
 clear hr ht hm ha
 have hsum : IntKind.i64.wrap ((s.size : Int) - (r.size : Int)) = ((k + m : Nat) : Int) := by rw [IntWalk.i64_in _ (by omega)]; omega
 go_enter Tryz.func49, Tryz.ntmps49
 go_wp2_with (first
  | (go_at_call 51; refine hP.mono ?_; rintro e w' ⟨rfl, rfl⟩)
  | (go_at_call 70; refine hT.mono ?_; rintro e w1 ⟨rfl, hb⟩))
 go_ret
 exact ⟨by go_num, hb⟩
theorem pbehind_no (s cs : ByteArray) (a : Int) (w : World) (h : ¬ (0 ≤ a ∧ a ≤ (s.size : Int))) :
  Calls Tryz.prog 49 #[.string s, .int .i64 a, .string cs] w fun e w' => e = .returned (.int .i64 0) ∧ Below w.heap.size w w' := by
 have hP := place_no s a w h
 clear h
 go_enter Tryz.func49, Tryz.ntmps49
 go_wp2_with (go_at_call 51; refine hP.mono ?_; rintro e w' ⟨rfl, rfl⟩)
 go_ret
 exact ⟨rfl, Below.refl _ _⟩
theorem asc_blanks : ∀ (j : Nat) b, (⟨#[32, 9]⟩ : ByteArray).data.toList[j]? = some b → b.toNat < 128 := ascii_of_all (by decide)
theorem asc_digits : ∀ (j : Nat) b, (⟨#[48, 49, 50, 51, 52, 53, 54, 55, 56, 57]⟩ : ByteArray).data.toList[j]? = some b → b.toNat < 128 := ascii_of_all (by decide)
theorem pblanks_any (s : ByteArray) (a : Int) (w : World) (hs : s.size ≤ 4000000) :
  Calls Tryz.prog 32 #[.string s, .int .i64 a] w fun e w' => e = .returned (.int .i64 (pcBehind [32, 9] s.data.toList a : Nat)) ∧ Below w.heap.size w w' := by
 have hB : Calls Tryz.prog 49 #[.string s, .int .i64 a, .string ⟨#[32, 9]⟩] w fun e w' => e = .returned (.int .i64 (pcBehind [32, 9] s.data.toList a : Nat)) ∧ Below w.heap.size w w' := by
  by_cases h : 0 ≤ a ∧ a ≤ (s.size : Int)
  ·obtain ⟨k, rfl⟩ : ∃ k : Nat, a = k := ⟨a.toNat, by omega⟩
   rw [pcBehind_at _ _ _ (by rw [← size_list]; omega)]
   exact pbehind_at s ⟨#[32, 9]⟩ k w hs (by omega) (by decide) asc_blanks
  ·rw [pcBehind_no _ _ _ (by rw [← size_list]; exact h)]
   exact pbehind_no s ⟨#[32, 9]⟩ a w h
 generalize pcBehind [32, 9] s.data.toList a = r at hB ⊢
 go_enter Tryz.func32, Tryz.ntmps32
 go_wp2_with (go_at_call 49; refine hB.mono ?_; rintro e w1 ⟨rfl, hb⟩)
 go_ret
 exact ⟨rfl, hb⟩
abbrev ans3 (r : Nat × Nat × Nat) : Ending := .returned (.tuple #[.int .i64 (r.1 : Nat), .int .i64 (r.2.1 : Nat), .int .i64 (r.2.2 : Nat)])
abbrev pcA (r : PcAns) : Ending := .returned (.tuple #[.string (txt r.1), .int .i64 (r.2.1 : Nat), .int .i64 (r.2.2 : Nat)])
theorem pcA_mk {t : ByteArray} {n e : Int} {r : PcAns} (h1 : t = txt r.1) (h2 : n = (r.2.1 : Nat)) (h3 : e = (r.2.2 : Nat)) : Ending.returned (.tuple #[.string t, .int .i64 n, .int .i64 e]) = pcA r := by rw [h1, h2, h3]
theorem pnumber_at (s : ByteArray) (k : Nat) (w : World) (hs : s.size ≤ 4000000) (hk : k ≤ s.size) :
  Calls Tryz.prog 47 #[.string s, .int .i64 k] w fun e w' => e = ans3 (pcNum s.data.toList k) ∧ Below w.heap.size w w' := by
 have hP := place_yes s k w hk
 have hB := pbehind_at s ⟨#[48, 49, 50, 51, 52, 53, 54, 55, 56, 57]⟩ k w hs hk (by decide) asc_digits
 rw [show (⟨#[48, 49, 50, 51, 52, 53, 54, 55, 56, 57]⟩ : ByteArray).data.toList = pcDigits from rfl] at hB
 have hle := pcLen_dropLe (fun b => pcDigits.contains b) s k hk
 have hbf := pcLen_before (fun b => pcDigits.contains b) (s.data.toList.drop k)
 obtain ⟨m, hm⟩ : ∃ m, pcIs pcDigits (s.data.toList.drop k) = m := ⟨_, rfl⟩
 have hm' : pcLen (fun b => pcDigits.contains b) (s.data.toList.drop k) = m := hm
 rw [hm'] at hle hbf
 rw [hm] at hB
 have hN : pcNum s.data.toList k = if m = 0 then (0, k, 2) else if 9 < m then (0, k, 3) else (pcVal ((s.data.toList.drop k).take m), k + m, 0) := by unfold pcNum; rw [hm]
 obtain ⟨R, hR⟩ : ∃ R, pcNum s.data.toList k = R := ⟨_, rfl⟩
 rw [hR] at hN ⊢
 have HR := Lib.hid hN
 clear hN hm' hR
 have HB := Lib.hid hbf
 clear hbf
 go_enter Tryz.func47, Tryz.ntmps47
 by_cases h0 : m = 0
 ·subst h0
  have hE : (((k + 0 : Nat) : Int) == (k : Int)) = true := by simp
  go_wp2_with (first
   | (go_at_call 51; refine hP.mono ?_; rintro e w' ⟨rfl, rfl⟩)
   | (go_at_call 49; refine hB.mono ?_; rintro e w1 ⟨rfl, hb⟩))
  go_ret3
  rw [HR.out]
  exact ⟨rfl, hb⟩
 ·have hE : (((k + m : Nat) : Int) == (k : Int)) = false := beq_eq_false_iff_ne.2 (by omega)
  have hS : IntKind.i64.wrap (((k + m : Nat) : Int) - (k : Int)) = (m : Int) := by rw [IntWalk.i64_in _ (by omega)]; omega
  by_cases h9 : 9 < m
  ·have h9' : (9 : Int) < (m : Int) := by omega
   go_wp2_with (first
    | (go_at_call 51; refine hP.mono ?_; rintro e w' ⟨rfl, rfl⟩)
    | (go_at_call 49; refine hB.mono ?_; rintro e w1 ⟨rfl, hb⟩))
   go_ret3
   rw [HR.out, if_neg h0, if_pos h9]
   exact ⟨rfl, hb⟩
  ·have h9' : ¬ (9 : Int) < (m : Int) := by omega
   have hDl := extract_list2 s k (k + m)
   rw [show k + m - k = m by omega] at hDl
   have hDs : (s.extract k (k + m)).size = m := by simp; omega
   obtain ⟨D, hD⟩ : ∃ D, s.extract k (k + m) = D := ⟨_, rfl⟩
   rw [hD] at hDl hDs
   go_wp2_with (first
    | (go_at_call 51; refine hP.mono ?_; rintro e w' ⟨rfl, rfl⟩)
    | (go_at_call 49; refine hB.mono ?_; rintro e w1 ⟨rfl, hb⟩))
   go_loopg [8, 10] m (fun g n _ wx => ∃ i : Nat, i + g = m ∧ n = .int .i64 (pcVal (D.data.toList.take i) : Nat) ∧ wx = w1.iter D i)
   case atStart => exact ⟨0, by omega, rfl, rfl⟩
   case round =>
    obtain ⟨i, hig, rfl, rfl⟩ := hrel
    cases gk with
    | zero =>
     obtain rfl : i = m := by omega
     have hnx := fun ty => run_next_end (P := Tryz.prog) w1 D i ty (by omega)
     go_wp2
     go_ret3
     refine ⟨?_, hb.alloc hb.size _⟩
     rw [HR.out, if_neg h0, if_neg h9, ← hDl, List.take_of_length_le (by rw [← size_list, hDs]; exact Nat.le_refl _)]
     rfl
    | succ g =>
     have hi : i < D.size := by omega
     have hx : D.data.toList[i]? = some D[i] := Lib.data_getElem? D i hi
     have hdig : pcDigits.contains D[i] = true := HB.out i D[i] (by omega) (by rw [hDl, List.getElem?_take_of_lt (by omega)] at hx; exact hx)
     rw [pcDigits_iff] at hdig
     simp only [Bool.and_eq_true, decide_eq_true_eq] at hdig
     have hnx := fun ty => run_next_ascii (P := Tryz.prog) w1 D i ty hi (by omega)
     have hlt : pcVal (D.data.toList.take i) < 1000000000 := by
      refine pcVal_nine _ (fun b hb => ?_) (by rw [List.length_take]; omega)
      obtain ⟨j, hj, he⟩ := List.mem_iff_getElem.1 hb
      rw [List.length_take] at hj
      have hj2 : j < D.data.toList.length := by omega
      refine HB.out j b (by omega) ?_
      have h3 : D.data.toList[j]? = some b := by rw [List.getElem?_eq_getElem hj2, ← he, List.getElem_take]
      rw [hDl, List.getElem?_take_of_lt (by omega)] at h3
      exact h3
     have Hn := Lib.hid (show pcVal (D.data.toList.take (i + 1)) = pcVal (D.data.toList.take i) * 10 + (D[i].toNat - 48) by
      rw [List.take_add_one, hx, Option.toList_some, pcVal_snoc])
     obtain ⟨v, hv⟩ : ∃ v, pcVal (D.data.toList.take i) = v := ⟨_, rfl⟩
     rw [hv] at hlt Hn ⊢
     clear hx hv
     have W1 : IntKind.i64.wrap (10 * (v : Int)) = 10 * (v : Int) := IntWalk.i64_in _ (by omega)
     go_wp2
     go_roundg g
     case measure => omega
     case rel =>
      refine ⟨i + 1, by omega, ?_, rfl⟩
      rw [Hn.out]
      exact congrArg (Value.int .i64) (by omega)
end Go.Proofs.YtbgfankoojjejaaGreatDoor
