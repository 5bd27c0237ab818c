/- Facts on this seat's program that several texts use. -/
import Derived.Test.YtlccdjkababapaaRows
import Derived.Test.YtlccdjkababapaaIdsPlain
import Derived.Test.YtlccdjkababapaaKit
namespace Go.Proofs.Ytlccdjkababapaa
theorem Try.infoByte : (Try.prog.info? 5).map (fun i => (i.zero, i.size, i.bytes)) = some (some (.int .u8 0), 1, 1) := by kernel_rfl
end Go.Proofs.Ytlccdjkababapaa
