/- The door's own heap meets the rows' condition. -/
import Derived.Test.YtipnabbdhmapkaaGreatDoorOpn
import Derived.Test.YtipnabbdhmapkaaGreatDoorTie
import Derived.Test.YtipnabbdhmapkaaGreatDoorCards
import Derived.SevenTiedAt
namespace Go.Proofs.YtipnabbdhmapkaaGreatDoor
open Go.ChangeShapes Go.WideShapes Go.ChangeAt Go.RowKit Go.Deep Go.Joins

theorem door_laid (os : Os) (args : Array Value) : laidMetH Tryz.prog Rows.levelMakesRow.laid ((World.doorLaid Tryz.prog 4000 os).forCall (fun _ _ => 0) ⟨#[], args, []⟩).memory :=
  laidMetH_of_parts3 (fuel := 8) (laidMet_of_run' 8 (by kernel_rfl) (by kernel_rfl)) (by kernel_rfl) (by kernel_rfl)
end Go.Proofs.YtipnabbdhmapkaaGreatDoor
