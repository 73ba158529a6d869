import Derived.Test.YtgamgomepdfgdaaGreatFM17
set_option maxRecDepth 100000
set_option maxHeartbeats 8000000
namespace Go.Proofs.YtgamgomepdfgdaaGreat
open Go.RowKit Go.Proofs.Tryz

end Go.Proofs.YtgamgomepdfgdaaGreat
