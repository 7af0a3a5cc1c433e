import Derived.Test.YtmclegfejkoaoaaDoorLSign
import Derived.Test.YtmclegfejkoaoaaDoorKyO
/- The law of Sign: its walk, and its key opened. -/
namespace Go.Proofs.YtmclegfejkoaoaaDoor
open Go.RowKit
end Go.Proofs.YtmclegfejkoaoaaDoor
