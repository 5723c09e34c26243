/- ShowSetBack and ShowBack, as their tied cards: one text for both, to be pruned. -/
import Derived.Test.YtpmeicclngckeaaGreatDoorBk32
namespace Go.Proofs.YtpmeicclngckeaaGreatDoor
theorem setBack_card : Rows.ShowSetBackCardSaid := showSetBack.proved
theorem back_card : Rows.ShowBackCardSaid := showBack.proved
end Go.Proofs.YtpmeicclngckeaaGreatDoor
