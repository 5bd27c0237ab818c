/- Facts on this seat's program that several texts use. -/
import Derived.Test.YtddbmbnpjdpijaaRows
import Derived.Test.YtddbmbnpjdpijaaIdsPlain
import Derived.Test.YtddbmbnpjdpijaaKit
namespace Go.Proofs.Ytddbmbnpjdpijaa
theorem Try.infoByte : (Try.prog.info? 5).map (fun i => (i.zero, i.size, i.bytes)) = some (some (.int .u8 0), 1, 1) := by kernel_rfl
end Go.Proofs.Ytddbmbnpjdpijaa
