/- The proof's texts OctW: what the claim reaches of them. -/
import Derived.Test.YtbgfankoojjejaaGreatDoorGd01
import Derived.Laws.Bits128
import Derived.Test.YtbgfankoojjejaaGreatDoorRows
import Derived.WalkKit
import Derived.WalkSpells
import Derived.WalkLawsBesides
import Derived.BigRegion
import Derived.Lib.Hide
import Derived.Test.YtbgfankoojjejaaGreatDoorGd02
set_option linter.unusedSimpArgs false
set_option linter.unusedVariables false
set_option maxHeartbeats 8000000
set_option maxRecDepth 1000000
namespace Go.Proofs.YtbgfankoojjejaaGreatDoor
def rep (c:Nat):Nat→Nat
 | 0=>0
 | k+1=>c+256 * rep c k
def f1 (b:Nat):Nat:=(b / 2 &&& 85)+(b &&& 85)
def f2 (b:Nat):Nat:=(b / 4 &&& 51)+(b &&& 51)
def f3 (b:Nat):Nat:=b / 16+b % 16
end Go.Proofs.YtbgfankoojjejaaGreatDoor
namespace Go.Proofs.YtbgfankoojjejaaGreatDoor
open Go.RowKit
theorem ret_bool {a b:Bool} (h:a=b):Ending.returned (.bool a)=.returned (.bool b):=by rw [h]
theorem ret_int {k:IntKind} {a b:Int} (h:a=b):Ending.returned (.int k a)=.returned (.int k b):=by rw [h]
theorem u64max:IntKind.u64.max=18446744073709551615:=by decide
theorem has_any (s:OSet) (x:Int) (h0:0≤x) (h1:x≤255) (w:World) :
  Calls Tryz.prog 144 #[.agg #[.int .u64 (ow s 0),.int .u64 (ow s 1),.int .u64 (ow s 2),.int .u64 (ow s 3)],.int .u8 x] w fun e w'=>e=.returned (.bool (ohas s x.toNat))∧Below w.heap.size w w':=by
 have hq:x / 64=0∨x / 64=1∨x / 64=2∨x / 64=3:=by omega
 rcases hq with hq | hq | hq | hq
 all_goals
  have H:=has_and s _ x h0 h1 hq
  have K:=Lib.hid H
  clear H
  go_enter Tryz.func144,Tryz.ntmps144
  go_wp2
  go_ret
  exact ⟨ret_bool K.out,(Below.refl _ _).alloc (Nat.le_refl _) _⟩
theorem not_any (s:OSet) (w:World) :
  Calls Tryz.prog 114 #[.agg #[.int .u64 (ow s 0),.int .u64 (ow s 1),.int .u64 (ow s 2),.int .u64 (ow s 3)]] w fun e w'=>e=.returned (.agg #[.int .u64 (ow (~~~s) 0),.int .u64 (ow (~~~s) 1),.int .u64 (ow (~~~s) 2),.int .u64 (ow (~~~s) 3)])∧Below w.heap.size w w':=by
 have k0:=bits_not_ow s 0 (by decide)
 have k1:=bits_not_ow s 1 (by decide)
 have k2:=bits_not_ow s 2 (by decide)
 have k3:=bits_not_ow s 3 (by decide)
 rw [←u64max] at k0 k1 k2 k3
 go_enter Tryz.func114,Tryz.ntmps114
 go_wp2
 refine wp_loop_rounds 5 ?_
 iterate 5 (rw [rounds_succ];go_wp2)
 refine bodyPost_ret (v:=.agg #[.int .u64 (ow (~~~s) 0),.int .u64 (ow (~~~s) 1),.int .u64 (ow (~~~s) 2),.int .u64 (ow (~~~s) 3)]) (by simp [results,Tryz.results114,go_sem]) rfl ⟨rfl,?_⟩
 exact ((Below.refl _ _).alloc (Nat.le_refl _) _).alloc (by simp) _
theorem and_any (s t:OSet) (w:World) :
  Calls Tryz.prog 164 #[.agg #[.int .u64 (ow s 0),.int .u64 (ow s 1),.int .u64 (ow s 2),.int .u64 (ow s 3)],.agg #[.int .u64 (ow t 0),.int .u64 (ow t 1),.int .u64 (ow t 2),.int .u64 (ow t 3)]] w fun e w'=>e=.returned (.agg #[.int .u64 (ow (s &&& t) 0),.int .u64 (ow (s &&& t) 1),.int .u64 (ow (s &&& t) 2),.int .u64 (ow (s &&& t) 3)])∧Below w.heap.size w w':=by
 have k0:=bits_and_ow s t 0
 have k1:=bits_and_ow s t 1
 have k2:=bits_and_ow s t 2
 have k3:=bits_and_ow s t 3
 go_enter Tryz.func164,Tryz.ntmps164
 go_wp2
 refine wp_loop_rounds 5 ?_
 iterate 4 (rw [rounds_succ];go_wp2;go_region;go_wp2)
 rw [rounds_succ]
 go_wp2
 refine bodyPost_ret (v:=.agg #[.int .u64 (ow (s &&& t) 0),.int .u64 (ow (s &&& t) 1),.int .u64 (ow (s &&& t) 2),.int .u64 (ow (s &&& t) 3)]) (by simp [results,Tryz.results164,go_sem]) rfl ⟨rfl,?_⟩
 repeat (first | exact Below.refl _ _ | refine Below.drew ?_ | refine Below.alloc ?_ (by simp <;> omega) _)
theorem or_any (s t:OSet) (w:World) :
  Calls Tryz.prog 143 #[.agg #[.int .u64 (ow s 0),.int .u64 (ow s 1),.int .u64 (ow s 2),.int .u64 (ow s 3)],.agg #[.int .u64 (ow t 0),.int .u64 (ow t 1),.int .u64 (ow t 2),.int .u64 (ow t 3)]] w fun e w'=>e=.returned (.agg #[.int .u64 (ow (s ||| t) 0),.int .u64 (ow (s ||| t) 1),.int .u64 (ow (s ||| t) 2),.int .u64 (ow (s ||| t) 3)])∧Below w.heap.size w w':=by
 have k0:=bits_or_ow s t 0
 have k1:=bits_or_ow s t 1
 have k2:=bits_or_ow s t 2
 have k3:=bits_or_ow s t 3
 go_enter Tryz.func143,Tryz.ntmps143
 go_wp2
 refine wp_loop_rounds 5 ?_
 iterate 4 (rw [rounds_succ];go_wp2;go_region;go_wp2)
 rw [rounds_succ]
 go_wp2
 refine bodyPost_ret (v:=.agg #[.int .u64 (ow (s ||| t) 0),.int .u64 (ow (s ||| t) 1),.int .u64 (ow (s ||| t) 2),.int .u64 (ow (s ||| t) 3)]) (by simp [results,Tryz.results143,go_sem]) rfl ⟨rfl,?_⟩
 repeat (first | exact Below.refl _ _ | refine Below.drew ?_ | refine Below.alloc ?_ (by simp <;> omega) _)
theorem setCell_drewN (w:World) (n:Nat) (a:Addr) (u:Value):(w.drewN n).setCell a u=(w.setCell a u).drewN n:=rfl
theorem wrap_pow (x:Int) (_h0:0≤x):IntKind.u64.wrap (2 ^ (x % 64).toNat)=2 ^ (x % 64).toNat:=by
 have h1:(x % 64).toNat < 64:=by omega
 have h2:(2:Int) ^ (x % 64).toNat < 2 ^ 64:=Int.pow_lt_pow_of_lt (by decide) h1
 have h3:(0:Int)≤2 ^ (x % 64).toNat:=Int.le_of_lt (Int.pow_pos (by decide))
 rw [IntKind.wrap_u64]
 exact Int.emod_eq_of_lt h3 h2
theorem bits_add_wrap (s:OSet) (i:Nat) (x:Int) (h0:0≤x) (h1:x≤255) (hi:x / 64=i):bits .or .u64 (ow s i) (IntKind.u64.wrap (2 ^ (x % 64).toNat))=ow (s ||| obit x.toNat) i:=by
 rw [wrap_pow x h0]
 exact bits_add_ow s i x h0 h1 hi
theorem add_any (s:OSet) (x:Int) (h0:0≤x) (h1:x≤255) (n p:Nat) (v:World) (hp:p=v.heap.size) :
  Calls Tryz.prog 134 #[.pointer (some ⟨p,0,none⟩),.int .u8 x] ((v.alloc (.cells #[.int .u64 (ow s 0),.int .u64 (ow s 1),.int .u64 (ow s 2),.int .u64 (ow s 3)] 132)).drewN n) fun e w'=>e=.returned (.tuple #[])∧
   (v.alloc (.cells #[.int .u64 (ow (s ||| obit x.toNat) 0),.int .u64 (ow (s ||| obit x.toNat) 1),.int .u64 (ow (s ||| obit x.toNat) 2),.int .u64 (ow (s ||| obit x.toNat) 3)] 132)).drewN (n+1)=w':=by
 subst hp
 have hq:x / 64=0∨x / 64=1∨x / 64=2∨x / 64=3:=by omega
 rcases hq with hq | hq | hq | hq
 all_goals
  have k:=bits_add_wrap s _ x h0 h1 hq
  have p0:=Lib.hid (ow_other s 0 x h0 h1)
  have p1:=Lib.hid (ow_other s 1 x h0 h1)
  have p2:=Lib.hid (ow_other s 2 x h0 h1)
  have p3:=Lib.hid (ow_other s 3 x h0 h1)
  go_enter Tryz.func134,Tryz.ntmps134
  go_wp2
  go_region
  go_wp2
  go_end0
  refine ⟨rfl,?_⟩
  rw [setCell_drewN,World.setCell_alloc_at _ _ _ _ _ rfl]
  first | rw [p0.out (by omega)] | skip
  first | rw [p1.out (by omega)] | skip
  first | rw [p2.out (by omega)] | skip
  first | rw [p3.out (by omega)] | skip
  rfl
end Go.Proofs.YtbgfankoojjejaaGreatDoor
namespace Go.Proofs.YtbgfankoojjejaaGreatDoor
open Go.RowKit
theorem of_any (zs:List Int) (b o cap:Nat) (w:World) (hb:b < w.heap.size) (hm:zs.length≤maxLen)
  (hc:∀ i,i < zs.length→w.cell? ⟨b,o+i,none⟩=some (.int .u8 (zs.getD i 0))) (hr:∀ i,0≤zs.getD i 0∧zs.getD i 0≤255) :
  Calls Tryz.prog 115 #[.slice (some ⟨b,o,none⟩) zs.length cap] w fun e w'=>e=.returned (.agg #[.int .u64 (ow (ofl zs) 0),.int .u64 (ow (ofl zs) 1),.int .u64 (ow (ofl zs) 2),.int .u64 (ow (ofl zs) 3)])∧Below w.heap.size w w':=by
 unfold maxLen at hm
 have Hc:=Lib.hid hc
 clear hc
 have Hr:=Lib.hid hr
 clear hr
 go_enter Tryz.func115,Tryz.ntmps115
 go_wp2
 go_loopw [8] (fun i wr=>∃ k n:Nat,k≤zs.length∧i=.int .i64 k∧wr=((w.alloc (.cells #[.int .u64 0,.int .u64 0,.int .u64 0,.int .u64 0] 132)).alloc (.cells #[.int .u64 (ow (ofl (zs.take k)) 0),.int .u64 (ow (ofl (zs.take k)) 1),.int .u64 (ow (ofl (zs.take k)) 2),.int .u64 (ow (ofl (zs.take k)) 3)] 132)).drewN n) (fun i _=>zs.length - (intOf i).toNat)
 case atStart=>exact ⟨0,0,Nat.zero_le _,rfl,by rw [World.drewN_zero,List.take_zero,ofl_nil,ow_zero,ow_zero,ow_zero,ow_zero]⟩
 case round=>
  obtain ⟨k,n,hk,rfl,rfl⟩:=hrel
  by_cases hlt:k < zs.length
  ·have hcell:=Hc.out k hlt
   have hrk:=Hr.out k
   have hsn0:=ofl_snoc zs k hlt
   generalize zs.getD k 0=z at hcell hrk hsn0
   have hsn:=Lib.hid hsn0
   clear hsn0
   go_wp2_with (go_at_call 134;refine (add_any _ _ hrk.1 hrk.2 _ _ _ (by simp)).mono ?_;rintro e w' ⟨rfl,rfl⟩)
   go_roundw
   case rel=>exact ⟨k+1,n+1,by omega,by go_num,by rw [hsn.out]⟩
   case measure=>simp [intOf];omega
  ·go_wp2
   have hkz:=Lib.hid (show zs.take k=zs from List.take_of_length_le (by omega))
   refine bodyPost_ret (v:=.agg #[.int .u64 (ow (ofl (zs.take k)) 0),.int .u64 (ow (ofl (zs.take k)) 1),.int .u64 (ow (ofl (zs.take k)) 2),.int .u64 (ow (ofl (zs.take k)) 3)]) (by simp [results,Tryz.results115,go_sem]) rfl ⟨by rw [hkz.out],?_⟩
   repeat (first | exact Below.refl _ _ | refine Below.drew ?_ | refine below_drewN ?_ _ | refine Below.setCell ?_ (by simp <;> omega) _ | refine Below.alloc ?_ (by simp <;> omega) _)
theorem span_any (lo hi:Int) (w:World) (h0:0≤lo) (h1:lo≤255) (h2:0≤hi) (h3:hi≤255) :
  Calls Tryz.prog 161 #[.int .u8 lo,.int .u8 hi] w fun e w'=>e=.returned (.agg #[.int .u64 (ow (oSpan lo hi) 0),.int .u64 (ow (oSpan lo hi) 1),.int .u64 (ow (oSpan lo hi) 2),.int .u64 (ow (oSpan lo hi) 3)])∧Below w.heap.size w w':=by
 go_enter Tryz.func161,Tryz.ntmps161
 go_wp2
 go_loopw [13] (fun i wr=>∃ k n:Nat,k≤(hi - lo+1).toNat∧i=.int .i64 k∧wr=((w.alloc (.cells #[.int .u64 0,.int .u64 0,.int .u64 0,.int .u64 0] 132)).alloc (.cells #[.int .u64 (ow (ospan lo.toNat k) 0),.int .u64 (ow (ospan lo.toNat k) 1),.int .u64 (ow (ospan lo.toNat k) 2),.int .u64 (ow (ospan lo.toNat k) 3)] 132)).drewN n) (fun i _=>256 - (intOf i).toNat)
 case atStart=>exact ⟨0,0,Nat.zero_le _,rfl,by rw [World.drewN_zero,ospan,ow_zero,ow_zero,ow_zero,ow_zero]⟩
 case round=>
  obtain ⟨k,n,hk,rfl,rfl⟩:=hrel
  by_cases hlt:(k:Int) < hi - lo+1
  ·go_wp2_with (go_at_call 134;refine (add_any _ _ (by omega) (by omega) _ _ _ (by simp)).mono ?_;rintro e w' ⟨rfl,rfl⟩)
   have hsn:ospan lo.toNat (k+1)=ospan lo.toNat k ||| obit (lo+k).toNat:=by
    rw [ospan,show lo.toNat+k=(lo+k).toNat by omega]
   go_roundw
   case rel=>exact ⟨k+1,n+1,by omega,by go_num,by rw [hsn]⟩
   case measure=>simp [intOf];omega
  ·have hkz:=Lib.hid (show oSpan lo hi=ospan lo.toNat k from by unfold oSpan;rw [show (hi - lo+1).toNat=k by omega])
   go_wp2
   refine bodyPost_ret (v:=.agg #[.int .u64 (ow (ospan lo.toNat k) 0),.int .u64 (ow (ospan lo.toNat k) 1),.int .u64 (ow (ospan lo.toNat k) 2),.int .u64 (ow (ospan lo.toNat k) 3)]) (by simp [results,Tryz.results161,go_sem]) rfl ⟨by rw [hkz.out],?_⟩
   repeat (first | exact Below.refl _ _ | refine Below.drew ?_ | refine below_drewN ?_ _ | refine Below.setCell ?_ (by simp <;> omega) _ | refine Below.alloc ?_ (by simp <;> omega) _)
def oc (s:OSet):Array Value:=#[.int .u64 (ow s 0),.int .u64 (ow s 1),.int .u64 (ow s 2),.int .u64 (ow s 3)]
theorem oblk_cells {w:World} {a:Nat} {s:OSet} {T:TypeId} (h:Blk w a (oc s) T) :
  w.cell? ⟨a,0,none⟩=some (.int .u64 (ow s 0))∧w.cell? ⟨a,1,none⟩=some (.int .u64 (ow s 1))∧w.cell? ⟨a,2,none⟩=some (.int .u64 (ow s 2))∧w.cell? ⟨a,3,none⟩=some (.int .u64 (ow s 3)):=
 ⟨by rw [h.cell];rfl,by rw [h.cell];rfl,by rw [h.cell];rfl,by rw [h.cell];rfl⟩
theorem oblk_store {w:World} {a:Nat} {s:OSet} {T:TypeId} (h:Blk w a (oc s) T) (t:OSet) :
  Blk ((((w.setCell ⟨a,0,none⟩ (.int .u64 (ow t 0))).setCell ⟨a,1,none⟩ (.int .u64 (ow t 1))).setCell ⟨a,2,none⟩ (.int .u64 (ow t 2))).setCell ⟨a,3,none⟩ (.int .u64 (ow t 3))) a (oc t) T:=by
 have:=(((h.set 0 (.int .u64 (ow t 0))).set 1 (.int .u64 (ow t 1))).set 2 (.int .u64 (ow t 2))).set 3 (.int .u64 (ow t 3))
 exact this
end Go.Proofs.YtbgfankoojjejaaGreatDoor
namespace Go.Proofs.YtbgfankoojjejaaGreatDoor
open Go.RowKit
theorem zblk_cells {w:World} {a:Nat} {T:TypeId} (h:Blk w a #[.int .u64 0,.int .u64 0,.int .u64 0,.int .u64 0] T) :
  w.cell? ⟨a,0,none⟩=some (.int .u64 0)∧w.cell? ⟨a,1,none⟩=some (.int .u64 0)∧w.cell? ⟨a,2,none⟩=some (.int .u64 0)∧w.cell? ⟨a,3,none⟩=some (.int .u64 0):=
 ⟨by rw [h.cell];rfl,by rw [h.cell];rfl,by rw [h.cell];rfl,by rw [h.cell];rfl⟩
def cLower:OSet:=oSpan 97 122
def cUpper:OSet:=oSpan 65 90
def cDigit:OSet:=oSpan 48 57
def cGraph:OSet:=oSpan 33 126
def cAlpha:OSet:=cLower ||| cUpper
def cAlnum:OSet:=cAlpha ||| cDigit
def cBlank:OSet:=ofl [32,9]
def cXdigit:OSet:=cDigit ||| oSpan 65 70 ||| oSpan 97 102
def cSpace:OSet:=cBlank ||| oSpan 10 13
def cCntrl:OSet:=oSpan 0 31 ||| ofl [127]
def cPrint:OSet:=oSpan 32 126
def cPunct:OSet:=cGraph &&& ~~~cAlnum
def clsSet (l:List UInt8):OSet:=
 bif l == [108,111,119,101,114] then cLower else bif l == [117,112,112,101,114] then cUpper else bif l == [97,108,112,104,97] then cAlpha
 else bif l == [100,105,103,105,116] then cDigit else bif l == [97,108,110,117,109] then cAlnum else bif l == [120,100,105,103,105,116] then cXdigit
 else bif l == [98,108,97,110,107] then cBlank else bif l == [115,112,97,99,101] then cSpace else bif l == [99,110,116,114,108] then cCntrl
 else bif l == [112,114,105,110,116] then cPrint else bif l == [103,114,97,112,104] then cGraph else bif l == [112,117,110,99,116] then cPunct else oz
def clsOk (l:List UInt8):Bool:=
 l == [108,111,119,101,114] || l == [117,112,112,101,114] || l == [97,108,112,104,97] || l == [100,105,103,105,116] || l == [97,108,110,117,109] || l == [120,100,105,103,105,116]
 || l == [98,108,97,110,107] || l == [115,112,97,99,101] || l == [99,110,116,114,108] || l == [112,114,105,110,116] || l == [103,114,97,112,104] || l == [112,117,110,99,116]
theorem of_one (x:Int) (h0:0≤x) (h1:x≤255) (W:World) (p:Nat) (hp:p=W.heap.size) :
  Calls Tryz.prog 115 #[.slice (some ⟨p,0,none⟩) 1 1] (W.alloc (.cells #[.int .u8 x] 5)) fun e w'=>e=.returned (.agg #[.int .u64 (ow (ofl [x]) 0),.int .u64 (ow (ofl [x]) 1),.int .u64 (ow (ofl [x]) 2),.int .u64 (ow (ofl [x]) 3)])∧Below W.heap.size W w':=by
 refine (of_any [x] p 0 1 _ (by subst hp;simp) (by simp [maxLen]) (fun i hi=>?_) (fun i=>?_)).mono ?_
 ·rw [(Blk.new W _ _ _ hp).cell]
  match i,hi with
  | 0,_=>rfl
 ·match i with
  | 0=>exact ⟨h0,h1⟩
  | _+1=>simp
 ·rintro e w' ⟨rfl,hb⟩
  exact ⟨rfl,((Below.refl _ _).alloc (Nat.le_refl _) _).trans (hb.mono (by simp))⟩
theorem of_two (x y:Int) (h0:0≤x) (h1:x≤255) (h2:0≤y) (h3:y≤255) (W:World) (p:Nat) (hp:p=W.heap.size) :
  Calls Tryz.prog 115 #[.slice (some ⟨p,0,none⟩) 2 2] (W.alloc (.cells #[.int .u8 x,.int .u8 y] 5)) fun e w'=>e=.returned (.agg #[.int .u64 (ow (ofl [x,y]) 0),.int .u64 (ow (ofl [x,y]) 1),.int .u64 (ow (ofl [x,y]) 2),.int .u64 (ow (ofl [x,y]) 3)])∧Below W.heap.size W w':=by
 refine (of_any [x,y] p 0 2 _ (by subst hp;simp) (by simp [maxLen]) (fun i hi=>?_) (fun i=>?_)).mono ?_
 ·rw [(Blk.new W _ _ _ hp).cell]
  match i,hi with
  | 0,_=>rfl
  | 1,_=>rfl
 ·match i with
  | 0=>exact ⟨h0,h1⟩
  | 1=>exact ⟨h2,h3⟩
  | _+2=>simp
 ·rintro e w' ⟨rfl,hb⟩
  exact ⟨rfl,((Below.refl _ _).alloc (Nat.le_refl _) _).trans (hb.mono (by simp))⟩
theorem lower_any (w:World) :
  Calls Tryz.prog 156 #[] w fun e w'=>e=.returned (.agg #[.int .u64 (ow cLower 0),.int .u64 (ow cLower 1),.int .u64 (ow cLower 2),.int .u64 (ow cLower 3)])∧Below w.heap.size w w':=by
 have hB:=Blk.new w #[.int .u64 0,.int .u64 0,.int .u64 0,.int .u64 0] 132 _ rfl;have hW:=(Below.refl w.heap.size w).alloc (Nat.le_refl _) (.cells #[.int .u64 0,.int .u64 0,.int .u64 0,.int .u64 0] 132)
 go_enter Tryz.func156,Tryz.ntmps156
 go_wp2_with (first | (go_at_call 161;refine (span_any 97 122 _ (by decide) (by decide) (by decide) (by decide)).mono ?_;rintro e w1 ⟨rfl,b1⟩;replace hW:=Below.trans hW (b1.mono hW.size);replace hB:=Blk.below hB b1 (Blk.lt hB);have f0:=hB.frozen 0;have f1:=hB.frozen 1;have f2:=hB.frozen 2;have f3:=hB.frozen 3;obtain ⟨d0,d1,d2,d3⟩:=zblk_cells hB;have hs:=hB.lt))
 refine bodyPost_ret (v:=.agg #[.int .u64 (ow (oSpan 97 122) 0),.int .u64 (ow (oSpan 97 122) 1),.int .u64 (ow (oSpan 97 122) 2),.int .u64 (ow (oSpan 97 122) 3)]) (by simp [results,Tryz.results156,go_sem,d0,d1,d2,d3]) rfl ⟨rfl,?_⟩;repeat (first | exact hW | refine Below.setCell ?_ (by simp) _)
theorem upper_any (w:World) :
  Calls Tryz.prog 157 #[] w fun e w'=>e=.returned (.agg #[.int .u64 (ow cUpper 0),.int .u64 (ow cUpper 1),.int .u64 (ow cUpper 2),.int .u64 (ow cUpper 3)])∧Below w.heap.size w w':=by
 have hB:=Blk.new w #[.int .u64 0,.int .u64 0,.int .u64 0,.int .u64 0] 132 _ rfl;have hW:=(Below.refl w.heap.size w).alloc (Nat.le_refl _) (.cells #[.int .u64 0,.int .u64 0,.int .u64 0,.int .u64 0] 132)
 go_enter Tryz.func157,Tryz.ntmps157
 go_wp2_with (first | (go_at_call 161;refine (span_any 65 90 _ (by decide) (by decide) (by decide) (by decide)).mono ?_;rintro e w1 ⟨rfl,b1⟩;replace hW:=Below.trans hW (b1.mono hW.size);replace hB:=Blk.below hB b1 (Blk.lt hB);have f0:=hB.frozen 0;have f1:=hB.frozen 1;have f2:=hB.frozen 2;have f3:=hB.frozen 3;obtain ⟨d0,d1,d2,d3⟩:=zblk_cells hB;have hs:=hB.lt))
 refine bodyPost_ret (v:=.agg #[.int .u64 (ow (oSpan 65 90) 0),.int .u64 (ow (oSpan 65 90) 1),.int .u64 (ow (oSpan 65 90) 2),.int .u64 (ow (oSpan 65 90) 3)]) (by simp [results,Tryz.results157,go_sem,d0,d1,d2,d3]) rfl ⟨rfl,?_⟩;repeat (first | exact hW | refine Below.setCell ?_ (by simp) _)
theorem digit_any (w:World) :
  Calls Tryz.prog 159 #[] w fun e w'=>e=.returned (.agg #[.int .u64 (ow cDigit 0),.int .u64 (ow cDigit 1),.int .u64 (ow cDigit 2),.int .u64 (ow cDigit 3)])∧Below w.heap.size w w':=by
 have hB:=Blk.new w #[.int .u64 0,.int .u64 0,.int .u64 0,.int .u64 0] 132 _ rfl;have hW:=(Below.refl w.heap.size w).alloc (Nat.le_refl _) (.cells #[.int .u64 0,.int .u64 0,.int .u64 0,.int .u64 0] 132)
 go_enter Tryz.func159,Tryz.ntmps159
 go_wp2_with (first | (go_at_call 161;refine (span_any 48 57 _ (by decide) (by decide) (by decide) (by decide)).mono ?_;rintro e w1 ⟨rfl,b1⟩;replace hW:=Below.trans hW (b1.mono hW.size);replace hB:=Blk.below hB b1 (Blk.lt hB);have f0:=hB.frozen 0;have f1:=hB.frozen 1;have f2:=hB.frozen 2;have f3:=hB.frozen 3;obtain ⟨d0,d1,d2,d3⟩:=zblk_cells hB;have hs:=hB.lt))
 refine bodyPost_ret (v:=.agg #[.int .u64 (ow (oSpan 48 57) 0),.int .u64 (ow (oSpan 48 57) 1),.int .u64 (ow (oSpan 48 57) 2),.int .u64 (ow (oSpan 48 57) 3)]) (by simp [results,Tryz.results159,go_sem,d0,d1,d2,d3]) rfl ⟨rfl,?_⟩;repeat (first | exact hW | refine Below.setCell ?_ (by simp) _)
theorem graph_any (w:World) :
  Calls Tryz.prog 163 #[] w fun e w'=>e=.returned (.agg #[.int .u64 (ow cGraph 0),.int .u64 (ow cGraph 1),.int .u64 (ow cGraph 2),.int .u64 (ow cGraph 3)])∧Below w.heap.size w w':=by
 have hB:=Blk.new w #[.int .u64 0,.int .u64 0,.int .u64 0,.int .u64 0] 132 _ rfl;have hW:=(Below.refl w.heap.size w).alloc (Nat.le_refl _) (.cells #[.int .u64 0,.int .u64 0,.int .u64 0,.int .u64 0] 132)
 go_enter Tryz.func163,Tryz.ntmps163
 go_wp2_with (first | (go_at_call 161;refine (span_any 33 126 _ (by decide) (by decide) (by decide) (by decide)).mono ?_;rintro e w1 ⟨rfl,b1⟩;replace hW:=Below.trans hW (b1.mono hW.size);replace hB:=Blk.below hB b1 (Blk.lt hB);have f0:=hB.frozen 0;have f1:=hB.frozen 1;have f2:=hB.frozen 2;have f3:=hB.frozen 3;obtain ⟨d0,d1,d2,d3⟩:=zblk_cells hB;have hs:=hB.lt))
 refine bodyPost_ret (v:=.agg #[.int .u64 (ow (oSpan 33 126) 0),.int .u64 (ow (oSpan 33 126) 1),.int .u64 (ow (oSpan 33 126) 2),.int .u64 (ow (oSpan 33 126) 3)]) (by simp [results,Tryz.results163,go_sem,d0,d1,d2,d3]) rfl ⟨rfl,?_⟩;repeat (first | exact hW | refine Below.setCell ?_ (by simp) _)
theorem blank_any (w:World) :
  Calls Tryz.prog 162 #[] w fun e w'=>e=.returned (.agg #[.int .u64 (ow cBlank 0),.int .u64 (ow cBlank 1),.int .u64 (ow cBlank 2),.int .u64 (ow cBlank 3)])∧Below w.heap.size w w':=by
 have hB:=Blk.new w #[.int .u64 0,.int .u64 0,.int .u64 0,.int .u64 0] 132 _ rfl;have hW:=(Below.refl w.heap.size w).alloc (Nat.le_refl _) (.cells #[.int .u64 0,.int .u64 0,.int .u64 0,.int .u64 0] 132)
 go_enter Tryz.func162,Tryz.ntmps162
 go_wp2_with (first | (go_at_call 115;refine (of_two 32 9 (by decide) (by decide) (by decide) (by decide) _ _ (by simp)).mono ?_;rintro e w1 ⟨rfl,b1⟩;replace hW:=Below.trans hW (b1.mono hW.size);replace hB:=Blk.below hB b1 (Blk.lt hB);have f0:=hB.frozen 0;have f1:=hB.frozen 1;have f2:=hB.frozen 2;have f3:=hB.frozen 3;obtain ⟨d0,d1,d2,d3⟩:=zblk_cells hB;have hs:=hB.lt))
 refine bodyPost_ret (v:=.agg #[.int .u64 (ow (ofl [32,9]) 0),.int .u64 (ow (ofl [32,9]) 1),.int .u64 (ow (ofl [32,9]) 2),.int .u64 (ow (ofl [32,9]) 3)]) (by simp [results,Tryz.results162,go_sem,d0,d1,d2,d3]) rfl ⟨rfl,?_⟩;repeat (first | exact hW | refine Below.setCell ?_ (by simp) _)
theorem alpha_any (w:World) :
  Calls Tryz.prog 158 #[] w fun e w'=>e=.returned (.agg #[.int .u64 (ow cAlpha 0),.int .u64 (ow cAlpha 1),.int .u64 (ow cAlpha 2),.int .u64 (ow cAlpha 3)])∧Below w.heap.size w w':=by
 have hB:=Blk.new w #[.int .u64 0,.int .u64 0,.int .u64 0,.int .u64 0] 132 _ rfl;have hW:=(Below.refl w.heap.size w).alloc (Nat.le_refl _) (.cells #[.int .u64 0,.int .u64 0,.int .u64 0,.int .u64 0] 132)
 go_enter Tryz.func158,Tryz.ntmps158
 go_wp2_with (first | (go_at_call 156;refine (lower_any _).mono ?_;rintro e w1 ⟨rfl,b1⟩;replace hW:=Below.trans hW (b1.mono hW.size);replace hB:=Blk.below hB b1 (Blk.lt hB);have f0:=hB.frozen 0;have f1:=hB.frozen 1;have f2:=hB.frozen 2;have f3:=hB.frozen 3;obtain ⟨d0,d1,d2,d3⟩:=zblk_cells hB;have hs:=hB.lt) | (go_at_call 157;refine (upper_any _).mono ?_;rintro e w1 ⟨rfl,b1⟩;replace hW:=Below.trans hW (b1.mono hW.size);replace hB:=Blk.below hB b1 (Blk.lt hB);have f0:=hB.frozen 0;have f1:=hB.frozen 1;have f2:=hB.frozen 2;have f3:=hB.frozen 3;obtain ⟨d0,d1,d2,d3⟩:=zblk_cells hB;have hs:=hB.lt) | (go_at_call 143;refine (or_any _ _ _).mono ?_;rintro e w1 ⟨rfl,b1⟩;replace hW:=Below.trans hW (b1.mono hW.size);replace hB:=Blk.below hB b1 (Blk.lt hB);have f0:=hB.frozen 0;have f1:=hB.frozen 1;have f2:=hB.frozen 2;have f3:=hB.frozen 3;obtain ⟨d0,d1,d2,d3⟩:=zblk_cells hB;have hs:=hB.lt))
 refine bodyPost_ret (v:=.agg #[.int .u64 (ow (cLower ||| cUpper) 0),.int .u64 (ow (cLower ||| cUpper) 1),.int .u64 (ow (cLower ||| cUpper) 2),.int .u64 (ow (cLower ||| cUpper) 3)]) (by simp [results,Tryz.results158,go_sem,d0,d1,d2,d3]) rfl ⟨rfl,?_⟩;repeat (first | exact hW | refine Below.setCell ?_ (by simp) _)
theorem alnum_any (w:World) :
  Calls Tryz.prog 160 #[] w fun e w'=>e=.returned (.agg #[.int .u64 (ow cAlnum 0),.int .u64 (ow cAlnum 1),.int .u64 (ow cAlnum 2),.int .u64 (ow cAlnum 3)])∧Below w.heap.size w w':=by
 have hB:=Blk.new w #[.int .u64 0,.int .u64 0,.int .u64 0,.int .u64 0] 132 _ rfl;have hW:=(Below.refl w.heap.size w).alloc (Nat.le_refl _) (.cells #[.int .u64 0,.int .u64 0,.int .u64 0,.int .u64 0] 132)
 go_enter Tryz.func160,Tryz.ntmps160
 go_wp2_with (first | (go_at_call 158;refine (alpha_any _).mono ?_;rintro e w1 ⟨rfl,b1⟩;replace hW:=Below.trans hW (b1.mono hW.size);replace hB:=Blk.below hB b1 (Blk.lt hB);have f0:=hB.frozen 0;have f1:=hB.frozen 1;have f2:=hB.frozen 2;have f3:=hB.frozen 3;obtain ⟨d0,d1,d2,d3⟩:=zblk_cells hB;have hs:=hB.lt) | (go_at_call 159;refine (digit_any _).mono ?_;rintro e w1 ⟨rfl,b1⟩;replace hW:=Below.trans hW (b1.mono hW.size);replace hB:=Blk.below hB b1 (Blk.lt hB);have f0:=hB.frozen 0;have f1:=hB.frozen 1;have f2:=hB.frozen 2;have f3:=hB.frozen 3;obtain ⟨d0,d1,d2,d3⟩:=zblk_cells hB;have hs:=hB.lt) | (go_at_call 143;refine (or_any _ _ _).mono ?_;rintro e w1 ⟨rfl,b1⟩;replace hW:=Below.trans hW (b1.mono hW.size);replace hB:=Blk.below hB b1 (Blk.lt hB);have f0:=hB.frozen 0;have f1:=hB.frozen 1;have f2:=hB.frozen 2;have f3:=hB.frozen 3;obtain ⟨d0,d1,d2,d3⟩:=zblk_cells hB;have hs:=hB.lt))
 refine bodyPost_ret (v:=.agg #[.int .u64 (ow (cAlpha ||| cDigit) 0),.int .u64 (ow (cAlpha ||| cDigit) 1),.int .u64 (ow (cAlpha ||| cDigit) 2),.int .u64 (ow (cAlpha ||| cDigit) 3)]) (by simp [results,Tryz.results160,go_sem,d0,d1,d2,d3]) rfl ⟨rfl,?_⟩;repeat (first | exact hW | refine Below.setCell ?_ (by simp) _)
theorem ret_cls {s t:OSet} {b c:Bool} (h:s=t) (h2:b=c):Ending.returned (.tuple #[.agg #[.int .u64 (ow s 0),.int .u64 (ow s 1),.int .u64 (ow s 2),.int .u64 (ow s 3)],.bool b])=.returned (.tuple #[.agg #[.int .u64 (ow t 0),.int .u64 (ow t 1),.int .u64 (ow t 2),.int .u64 (ow t 3)],.bool c]):=by rw [h,h2]
theorem class_any (s:ByteArray) (w:World) :
  Calls Tryz.prog 150 #[.string s] w fun e w'=>e=.returned (.tuple #[.agg #[.int .u64 (ow (clsSet s.toList) 0),.int .u64 (ow (clsSet s.toList) 1),.int .u64 (ow (clsSet s.toList) 2),.int .u64 (ow (clsSet s.toList) 3)],.bool (clsOk s.toList)])∧Below w.heap.size w w':=by
 have hB:=Blk.new w #[.int .u64 0,.int .u64 0,.int .u64 0,.int .u64 0] 132 _ rfl;have hW:=(Below.refl w.heap.size w).alloc (Nat.le_refl _) (.cells #[.int .u64 0,.int .u64 0,.int .u64 0,.int .u64 0] 132)
 go_enter Tryz.func150,Tryz.ntmps150
 go_wp2_with (first | (go_at_call 156;refine (lower_any _).mono ?_;rintro e w1 ⟨rfl,b1⟩;replace hW:=Below.trans hW (b1.mono hW.size);replace hB:=Blk.below hB b1 (Blk.lt hB);have f0:=hB.frozen 0;have f1:=hB.frozen 1;have f2:=hB.frozen 2;have f3:=hB.frozen 3;obtain ⟨d0,d1,d2,d3⟩:=zblk_cells hB;have hs:=hB.lt) | (go_at_call 157;refine (upper_any _).mono ?_;rintro e w1 ⟨rfl,b1⟩;replace hW:=Below.trans hW (b1.mono hW.size);replace hB:=Blk.below hB b1 (Blk.lt hB);have f0:=hB.frozen 0;have f1:=hB.frozen 1;have f2:=hB.frozen 2;have f3:=hB.frozen 3;obtain ⟨d0,d1,d2,d3⟩:=zblk_cells hB;have hs:=hB.lt) | (go_at_call 158;refine (alpha_any _).mono ?_;rintro e w1 ⟨rfl,b1⟩;replace hW:=Below.trans hW (b1.mono hW.size);replace hB:=Blk.below hB b1 (Blk.lt hB);have f0:=hB.frozen 0;have f1:=hB.frozen 1;have f2:=hB.frozen 2;have f3:=hB.frozen 3;obtain ⟨d0,d1,d2,d3⟩:=zblk_cells hB;have hs:=hB.lt) | (go_at_call 159;refine (digit_any _).mono ?_;rintro e w1 ⟨rfl,b1⟩;replace hW:=Below.trans hW (b1.mono hW.size);replace hB:=Blk.below hB b1 (Blk.lt hB);have f0:=hB.frozen 0;have f1:=hB.frozen 1;have f2:=hB.frozen 2;have f3:=hB.frozen 3;obtain ⟨d0,d1,d2,d3⟩:=zblk_cells hB;have hs:=hB.lt) | (go_at_call 160;refine (alnum_any _).mono ?_;rintro e w1 ⟨rfl,b1⟩;replace hW:=Below.trans hW (b1.mono hW.size);replace hB:=Blk.below hB b1 (Blk.lt hB);have f0:=hB.frozen 0;have f1:=hB.frozen 1;have f2:=hB.frozen 2;have f3:=hB.frozen 3;obtain ⟨d0,d1,d2,d3⟩:=zblk_cells hB;have hs:=hB.lt) | (go_at_call 162;refine (blank_any _).mono ?_;rintro e w1 ⟨rfl,b1⟩;replace hW:=Below.trans hW (b1.mono hW.size);replace hB:=Blk.below hB b1 (Blk.lt hB);have f0:=hB.frozen 0;have f1:=hB.frozen 1;have f2:=hB.frozen 2;have f3:=hB.frozen 3;obtain ⟨d0,d1,d2,d3⟩:=zblk_cells hB;have hs:=hB.lt) | (go_at_call 163;refine (graph_any _).mono ?_;rintro e w1 ⟨rfl,b1⟩;replace hW:=Below.trans hW (b1.mono hW.size);replace hB:=Blk.below hB b1 (Blk.lt hB);have f0:=hB.frozen 0;have f1:=hB.frozen 1;have f2:=hB.frozen 2;have f3:=hB.frozen 3;obtain ⟨d0,d1,d2,d3⟩:=zblk_cells hB;have hs:=hB.lt) | (go_at_call 161;refine (span_any _ _ _ (by decide) (by decide) (by decide) (by decide)).mono ?_;rintro e w1 ⟨rfl,b1⟩;replace hW:=Below.trans hW (b1.mono hW.size);replace hB:=Blk.below hB b1 (Blk.lt hB);have f0:=hB.frozen 0;have f1:=hB.frozen 1;have f2:=hB.frozen 2;have f3:=hB.frozen 3;obtain ⟨d0,d1,d2,d3⟩:=zblk_cells hB;have hs:=hB.lt) | (go_at_call 115;refine (of_one 127 (by decide) (by decide) _ _ (by simp)).mono ?_;rintro e w1 ⟨rfl,b1⟩;replace hW:=Below.trans hW (b1.mono hW.size);replace hB:=Blk.below hB b1 (Blk.lt hB);have f0:=hB.frozen 0;have f1:=hB.frozen 1;have f2:=hB.frozen 2;have f3:=hB.frozen 3;obtain ⟨d0,d1,d2,d3⟩:=zblk_cells hB;have hs:=hB.lt) | (go_at_call 143;refine (or_any _ _ _).mono ?_;rintro e w1 ⟨rfl,b1⟩;replace hW:=Below.trans hW (b1.mono hW.size);replace hB:=Blk.below hB b1 (Blk.lt hB);have f0:=hB.frozen 0;have f1:=hB.frozen 1;have f2:=hB.frozen 2;have f3:=hB.frozen 3;obtain ⟨d0,d1,d2,d3⟩:=zblk_cells hB;have hs:=hB.lt) | (go_at_call 164;refine (and_any _ _ _).mono ?_;rintro e w1 ⟨rfl,b1⟩;replace hW:=Below.trans hW (b1.mono hW.size);replace hB:=Blk.below hB b1 (Blk.lt hB);have f0:=hB.frozen 0;have f1:=hB.frozen 1;have f2:=hB.frozen 2;have f3:=hB.frozen 3;obtain ⟨d0,d1,d2,d3⟩:=zblk_cells hB;have hs:=hB.lt) | (go_at_call 114;refine (not_any _ _).mono ?_;rintro e w1 ⟨rfl,b1⟩;replace hW:=Below.trans hW (b1.mono hW.size);replace hB:=Blk.below hB b1 (Blk.lt hB);have f0:=hB.frozen 0;have f1:=hB.frozen 1;have f2:=hB.frozen 2;have f3:=hB.frozen 3;obtain ⟨d0,d1,d2,d3⟩:=zblk_cells hB;have hs:=hB.lt))
 ·refine bodyPost_ret (v:=.tuple #[.agg #[.int .u64 (ow cLower 0),.int .u64 (ow cLower 1),.int .u64 (ow cLower 2),.int .u64 (ow cLower 3)],.bool true]) (by simp [results,Tryz.results150,go_sem,d0,d1,d2,d3]) rfl ⟨ret_cls (by simp only [clsSet,cond_true, *] <;> rfl) (by simp [clsOk, *]),?_⟩
  repeat (first | exact hW | refine Below.setCell ?_ (by simp) _)
 ·refine bodyPost_ret (v:=.tuple #[.agg #[.int .u64 (ow cUpper 0),.int .u64 (ow cUpper 1),.int .u64 (ow cUpper 2),.int .u64 (ow cUpper 3)],.bool true]) (by simp [results,Tryz.results150,go_sem,d0,d1,d2,d3]) rfl ⟨ret_cls (by simp only [clsSet,cond_true,cond_false, *] <;> rfl) (by simp [clsOk, *]),?_⟩
  repeat (first | exact hW | refine Below.setCell ?_ (by simp) _)
 ·refine bodyPost_ret (v:=.tuple #[.agg #[.int .u64 (ow cAlpha 0),.int .u64 (ow cAlpha 1),.int .u64 (ow cAlpha 2),.int .u64 (ow cAlpha 3)],.bool true]) (by simp [results,Tryz.results150,go_sem,d0,d1,d2,d3]) rfl ⟨ret_cls (by simp only [clsSet,cond_true,cond_false, *] <;> rfl) (by simp [clsOk, *]),?_⟩
  repeat (first | exact hW | refine Below.setCell ?_ (by simp) _)
 ·refine bodyPost_ret (v:=.tuple #[.agg #[.int .u64 (ow cDigit 0),.int .u64 (ow cDigit 1),.int .u64 (ow cDigit 2),.int .u64 (ow cDigit 3)],.bool true]) (by simp [results,Tryz.results150,go_sem,d0,d1,d2,d3]) rfl ⟨ret_cls (by simp only [clsSet,cond_true,cond_false, *] <;> rfl) (by simp [clsOk, *]),?_⟩
  repeat (first | exact hW | refine Below.setCell ?_ (by simp) _)
 ·refine bodyPost_ret (v:=.tuple #[.agg #[.int .u64 (ow cAlnum 0),.int .u64 (ow cAlnum 1),.int .u64 (ow cAlnum 2),.int .u64 (ow cAlnum 3)],.bool true]) (by simp [results,Tryz.results150,go_sem,d0,d1,d2,d3]) rfl ⟨ret_cls (by simp only [clsSet,cond_true,cond_false, *] <;> rfl) (by simp [clsOk, *]),?_⟩
  repeat (first | exact hW | refine Below.setCell ?_ (by simp) _)
 ·refine bodyPost_ret (v:=.tuple #[.agg #[.int .u64 (ow (cDigit ||| oSpan 65 70 ||| oSpan 97 102) 0),.int .u64 (ow (cDigit ||| oSpan 65 70 ||| oSpan 97 102) 1),.int .u64 (ow (cDigit ||| oSpan 65 70 ||| oSpan 97 102) 2),.int .u64 (ow (cDigit ||| oSpan 65 70 ||| oSpan 97 102) 3)],.bool true]) (by simp [results,Tryz.results150,go_sem,d0,d1,d2,d3]) rfl ⟨ret_cls (by simp only [clsSet,cond_true,cond_false, *] <;> rfl) (by simp [clsOk, *]),?_⟩
  repeat (first | exact hW | refine Below.setCell ?_ (by simp) _)
 ·refine bodyPost_ret (v:=.tuple #[.agg #[.int .u64 (ow cBlank 0),.int .u64 (ow cBlank 1),.int .u64 (ow cBlank 2),.int .u64 (ow cBlank 3)],.bool true]) (by simp [results,Tryz.results150,go_sem,d0,d1,d2,d3]) rfl ⟨ret_cls (by simp only [clsSet,cond_true,cond_false, *] <;> rfl) (by simp [clsOk, *]),?_⟩
  repeat (first | exact hW | refine Below.setCell ?_ (by simp) _)
 ·refine bodyPost_ret (v:=.tuple #[.agg #[.int .u64 (ow (cBlank ||| oSpan 10 13) 0),.int .u64 (ow (cBlank ||| oSpan 10 13) 1),.int .u64 (ow (cBlank ||| oSpan 10 13) 2),.int .u64 (ow (cBlank ||| oSpan 10 13) 3)],.bool true]) (by simp [results,Tryz.results150,go_sem,d0,d1,d2,d3]) rfl ⟨ret_cls (by simp only [clsSet,cond_true,cond_false, *] <;> rfl) (by simp [clsOk, *]),?_⟩
  repeat (first | exact hW | refine Below.setCell ?_ (by simp) _)
 ·refine bodyPost_ret (v:=.tuple #[.agg #[.int .u64 (ow (oSpan 0 31 ||| ofl [127]) 0),.int .u64 (ow (oSpan 0 31 ||| ofl [127]) 1),.int .u64 (ow (oSpan 0 31 ||| ofl [127]) 2),.int .u64 (ow (oSpan 0 31 ||| ofl [127]) 3)],.bool true]) (by simp [results,Tryz.results150,go_sem,d0,d1,d2,d3]) rfl ⟨ret_cls (by simp only [clsSet,cond_true,cond_false, *] <;> rfl) (by simp [clsOk, *]),?_⟩
  repeat (first | exact hW | refine Below.setCell ?_ (by simp) _)
 ·refine bodyPost_ret (v:=.tuple #[.agg #[.int .u64 (ow (oSpan 32 126) 0),.int .u64 (ow (oSpan 32 126) 1),.int .u64 (ow (oSpan 32 126) 2),.int .u64 (ow (oSpan 32 126) 3)],.bool true]) (by simp [results,Tryz.results150,go_sem,d0,d1,d2,d3]) rfl ⟨ret_cls (by simp only [clsSet,cond_true,cond_false, *] <;> rfl) (by simp [clsOk, *]),?_⟩
  repeat (first | exact hW | refine Below.setCell ?_ (by simp) _)
 ·refine bodyPost_ret (v:=.tuple #[.agg #[.int .u64 (ow cGraph 0),.int .u64 (ow cGraph 1),.int .u64 (ow cGraph 2),.int .u64 (ow cGraph 3)],.bool true]) (by simp [results,Tryz.results150,go_sem,d0,d1,d2,d3]) rfl ⟨ret_cls (by simp only [clsSet,cond_true,cond_false, *] <;> rfl) (by simp [clsOk, *]),?_⟩
  repeat (first | exact hW | refine Below.setCell ?_ (by simp) _)
 ·refine bodyPost_ret (v:=.tuple #[.agg #[.int .u64 (ow (cGraph &&& ~~~cAlnum) 0),.int .u64 (ow (cGraph &&& ~~~cAlnum) 1),.int .u64 (ow (cGraph &&& ~~~cAlnum) 2),.int .u64 (ow (cGraph &&& ~~~cAlnum) 3)],.bool true]) (by simp [results,Tryz.results150,go_sem,d0,d1,d2,d3]) rfl ⟨ret_cls (by simp only [clsSet,cond_true,cond_false, *] <;> rfl) (by simp [clsOk, *]),?_⟩
  repeat (first | exact hW | refine Below.setCell ?_ (by simp) _)
 ·refine bodyPost_ret (v:=.tuple #[.agg #[.int .u64 (ow oz 0),.int .u64 (ow oz 1),.int .u64 (ow oz 2),.int .u64 (ow oz 3)],.bool false]) (by simp [results,Tryz.results150,go_sem,ow_zero]) rfl ⟨ret_cls (by simp only [clsSet,cond_false, *] <;> rfl) (by simp [clsOk, *]),?_⟩
  repeat (first | exact hW | refine Below.setCell ?_ (by simp) _)
end Go.Proofs.YtbgfankoojjejaaGreatDoor
