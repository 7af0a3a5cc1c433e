/- Numbers of bytes: the model's and the program's. -/
import Derived.Test.YtakonfkefoeenacDoorData4
import Derived.Test.YtakonfkefoeenacDoorBig1
namespace Go.Proofs.YtakonfkefoeenacDoor
end Go.Proofs.YtakonfkefoeenacDoor
