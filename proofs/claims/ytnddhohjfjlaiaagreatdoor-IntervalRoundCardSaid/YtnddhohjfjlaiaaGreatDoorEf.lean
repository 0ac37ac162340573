/-
  A number as a multiple of a power of 2.
-/
import Derived.Test.YtnddhohjfjlaiaaGreatDoorEe
namespace Go.Proofs.YtnddhohjfjlaiaaGreatDoor
open Go.RowKit
set_option linter.unusedVariables false
set_option linter.unusedSimpArgs false

end Go.Proofs.YtnddhohjfjlaiaaGreatDoor
