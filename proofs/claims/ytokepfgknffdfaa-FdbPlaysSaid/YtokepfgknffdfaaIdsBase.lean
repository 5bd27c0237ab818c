/- Facts on this seat's program that several texts use. -/
import Derived.Test.YtokepfgknffdfaaRows
import Derived.Test.YtokepfgknffdfaaIdsPlain
import Derived.Test.YtokepfgknffdfaaKit
namespace Go.Proofs.Ytokepfgknffdfaa
theorem Try.infoByte : (Try.prog.info? 5).map (fun i => (i.zero, i.size, i.bytes)) = some (some (.int .u8 0), 1, 1) := by kernel_rfl
end Go.Proofs.Ytokepfgknffdfaa
