import Derived.Deep.LoopGhost
import Derived.Test.YtgamgomepdfgdaaGreatFM26
import Derived.Test.YtgamgomepdfgdaaGreatFM27
import Derived.Test.YtgamgomepdfgdaaGreatFM28
import Derived.Test.YtgamgomepdfgdaaGreatFM29
set_option maxRecDepth 100000
set_option maxHeartbeats 8000000
namespace Go.Proofs.YtgamgomepdfgdaaGreat
open Go.RowKit Go.Proofs.Tryz
theorem info_sgm:(prog.info? 119).map (λi=>(i.zero,i.size,i.bytes))=some (some (.agg #[.slice none 0 0,.int .i64 0,.bool false,.int .i64 0]),4,48):=by kernel_rfl
end Go.Proofs.YtgamgomepdfgdaaGreat
