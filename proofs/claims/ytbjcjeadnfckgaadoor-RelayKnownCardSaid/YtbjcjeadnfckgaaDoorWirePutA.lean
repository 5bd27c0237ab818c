/- Put of an address. -/
import Derived.Test.YtbjcjeadnfckgaaDoorWirePut
namespace Go.Proofs.YtbjcjeadnfckgaaDoor
set_option maxRecDepth 100000
open Go.ChangeShapes Go.WideShapes Go.ChangeAt Go.RowKit
set_option linter.unusedVariables false

end Go.Proofs.YtbjcjeadnfckgaaDoor
