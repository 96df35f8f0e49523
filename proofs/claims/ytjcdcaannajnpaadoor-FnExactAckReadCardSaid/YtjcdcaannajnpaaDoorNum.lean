/- PutNum, the program's and the model's: both give 'putN'. -/
import Derived.Test.YtjcdcaannajnpaaDoorRows
import Derived.Test.YtjcdcaannajnpaaDoorBase
import Derived.Test.YtjcdcaannajnpaaDoorNumPlain
namespace Go.Proofs.YtjcdcaannajnpaaDoor
open Go.RowKit

theorem Tryd.infoU8 : (Tryd.prog.info? 5).map (fun i => (i.zero, i.size, i.bytes)) = some (some (.int .u8 0), 1, 1) := by kernel_rfl




theorem make10 (w : World) : (Instr.makeSlice 104 (.int .i64 0) (.int .i64 10)).run Tryd.prog w = .ok (.slice (some ⟨w.heap.size, 0, none⟩) 0 10) (w.alloc (.cells #[.int .u8 0, .int .u8 0, .int .u8 0, .int .u8 0, .int .u8 0, .int .u8 0, .int .u8 0, .int .u8 0, .int .u8 0, .int .u8 0] 5)) := by kernel_rfl

end Go.Proofs.YtjcdcaannajnpaaDoor
