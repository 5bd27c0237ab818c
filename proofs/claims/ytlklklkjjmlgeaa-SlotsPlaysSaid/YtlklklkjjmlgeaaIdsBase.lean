/- Facts on this seat's program that several texts use. -/
import Derived.Test.YtlklklkjjmlgeaaRows
import Derived.Test.YtlklklkjjmlgeaaIdsPlain
import Derived.Test.YtlklklkjjmlgeaaKit
namespace Go.Proofs.Ytlklklkjjmlgeaa
theorem Try.infoByte : (Try.prog.info? 5).map (fun i => (i.zero, i.size, i.bytes)) = some (some (.int .u8 0), 1, 1) := by kernel_rfl
end Go.Proofs.Ytlklklkjjmlgeaa
