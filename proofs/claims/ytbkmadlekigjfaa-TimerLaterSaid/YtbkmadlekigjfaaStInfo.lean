/- What a part's type is. -/
import Derived.Test.YtbkmadlekigjfaaStRef2
namespace Go.Proofs.Ytbkmadlekigjfaa
open Go.RowKit
theorem info_prt : (Try.prog.info? 38).map (fun i => (i.zero, i.size, i.bytes)) = some (some (.agg #[.int .i64 0, .int .i64 0, .int .i64 0, .int .i64 0, .int .i64 0, .bool false, .bool false, .int .i64 0, .int .i64 0]), El.k Prt, 64) := by kernel_rfl
end Go.Proofs.Ytbkmadlekigjfaa
