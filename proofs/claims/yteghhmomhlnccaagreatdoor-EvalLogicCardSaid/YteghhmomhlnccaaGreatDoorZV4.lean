import Derived.Test.YteghhmomhlnccaaGreatDoorZM4

/- Values: the reference's look whether one is plain. -/
namespace Go.Proofs.YteghhmomhlnccaaGreatDoor
open Go.RowKit

end Go.Proofs.YteghhmomhlnccaaGreatDoor
