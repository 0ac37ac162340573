/-
  Product.
-/
import Derived.Test.YtnddhohjfjlaiaaGreatDoorEg
namespace Go.Proofs.YtnddhohjfjlaiaaGreatDoor
open Go.RowKit
set_option linter.unusedVariables false
set_option linter.unusedSimpArgs false

end Go.Proofs.YtnddhohjfjlaiaaGreatDoor
