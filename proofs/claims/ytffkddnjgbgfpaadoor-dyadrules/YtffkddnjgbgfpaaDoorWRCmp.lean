/- The walks of planimeterref01.Cmp and of nat.Bare. -/
import Derived.Test.YtffkddnjgbgfpaaDoorWRAdd
import Derived.Laws.CopyOwn
namespace Go.Proofs.YtffkddnjgbgfpaaDoor
open Go.RowKit


theorem size64 : (Tryd.prog.info? 36).map (·.size) = some 1 := by kernel_rfl


end Go.Proofs.YtffkddnjgbgfpaaDoor
