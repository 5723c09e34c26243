/- BqQ: The statements' quoted bytes, walked.
   BqP: The statement BreQuotes, walked. -/
import Derived.Test.YtacpoandhocmhaaGreatDoorBt
import Derived.Test.YtacpoandhocmhaaGreatDoorOctRClass
import Derived.Test.YtacpoandhocmhaaGreatDoorIdx
import Derived.Test.YtacpoandhocmhaaGreatDoorCmn
namespace Go.Proofs.YtacpoandhocmhaaGreatDoor
open Go Go.RowKit Go.Shelf

/-- How a byte is told, in a basic regex or an extended one. -/
def qzg (ere : Bool) (b : Nat) : List UInt8 := if b = 10 then [92, 110] else if !ere && qPlain b then [UInt8.ofNat b] else if ohas punctSet b then [92, UInt8.ofNat b] else [UInt8.ofNat b]
theorem qzg_len (ere : Bool) (b : Nat) : (qzg ere b).length ≤ 2 := by
  unfold qzg
  repeat (split; · simp)
  simp
def quotedG (ere : Bool) (l : List Nat) : List UInt8 := l.flatMap (qzg ere)
theorem quotedG_bre (l : List Nat) : quotedG false l = quoted l := by
  unfold quotedG quoted
  congr 1
theorem quotedG_len (ere : Bool) (l : List Nat) : (quotedG ere l).length ≤ 2 * l.length := by
  induction l with
  | nil => simp [quotedG]
  | cons b l ih =>
    have h := qzg_len ere b
    unfold quotedG at ih ⊢
    rw [List.flatMap_cons, List.length_append, List.length_cons]
    omega
theorem quotedG_snoc (ere : Bool) (zs : List Int) (k : Nat) (h : k < zs.length) : quotedG ere ((zs.take (k + 1)).map Int.toNat) = quotedG ere ((zs.take k).map Int.toNat) ++ qzg ere (zs.getD k 0).toNat := by
  rw [List.take_succ_eq_append_getElem h, List.map_append]
  unfold quotedG
  rw [List.flatMap_append]
  simp [List.getD, List.getElem?_eq_getElem h]
theorem qzg_ten (ere : Bool) : qzg ere 10 = [92, 110] := rfl
theorem qzg_esc (ere : Bool) (b : Nat) (h10 : b ≠ 10) (hq : ere = true ∨ qPlain b = false) (hp : ohas punctSet b = true) : qzg ere b = [92, UInt8.ofNat b] := by
  unfold qzg
  rw [if_neg h10, if_neg (by rcases hq with rfl | h <;> simp_all), if_pos hp]
theorem qzg_self (ere : Bool) (b : Nat) (h10 : b ≠ 10) (hp : ohas punctSet b = false) : qzg ere b = [UInt8.ofNat b] := by
  unfold qzg
  rw [if_neg h10]
  split
  · rfl
  · rw [if_neg (by simp [hp])]
end Go.Proofs.YtacpoandhocmhaaGreatDoor
namespace Go.Proofs.YtacpoandhocmhaaGreatDoor
open Go Go.RowKit Go.Shelf

end Go.Proofs.YtacpoandhocmhaaGreatDoor
