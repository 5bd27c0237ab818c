/- Facts on this seat's program that several texts use. -/
import Derived.Test.YtkdbhioneoknjaaRows
import Derived.Test.YtkdbhioneoknjaaIdsPlain
import Derived.Test.YtkdbhioneoknjaaKit
namespace Go.Proofs.Ytkdbhioneoknjaa
theorem Try.infoByte : (Try.prog.info? 5).map (fun i => (i.zero, i.size, i.bytes)) = some (some (.int .u8 0), 1, 1) := by kernel_rfl
end Go.Proofs.Ytkdbhioneoknjaa
