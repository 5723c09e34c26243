/- The proof's texts EtM: what the claim reaches of them. -/
import Derived.Test.YtpmeicclngckeaaGreatDoorBk06
namespace Go.Proofs.YtpmeicclngckeaaGreatDoor
def lvS (ere : Bool) (s : List UInt8) : Nat → Option (ReSt → ReRes (ReSt × Nd))
  | 0 => none
  | k + 1 => some (regM ere s k)
theorem reg_lvS (ere : Bool) (s : List UInt8) (k : Nat) (st : ReSt) : regM ere s k st = choiceM ere s (lvS ere s k) false (s.length + 1) st [] := by cases k <;> rfl
end Go.Proofs.YtpmeicclngckeaaGreatDoor
