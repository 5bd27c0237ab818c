/- Facts on this seat's program that several texts use. -/
import Derived.Test.YtbjcjeadnfckgaaDoorRows
import Derived.Test.YtbjcjeadnfckgaaDoorIdsPlain
import Derived.Test.YtbjcjeadnfckgaaDoorKit
namespace Go.Proofs.YtbjcjeadnfckgaaDoor
set_option maxRecDepth 100000
theorem Tryd.infoByteI : (Tryd.prog.info? 5).map (fun i => (i.zero, i.size, i.bytes)) = some (some (.int .u8 0), 1, 1) := by kernel_rfl
end Go.Proofs.YtbjcjeadnfckgaaDoor
