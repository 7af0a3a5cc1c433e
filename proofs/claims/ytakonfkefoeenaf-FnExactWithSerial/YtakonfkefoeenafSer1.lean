/- Numbers of bytes: the model's and the program's. -/
import Derived.Test.YtakonfkefoeenafData4
import Derived.Test.YtakonfkefoeenafBig1
namespace Go.Proofs.Ytakonfkefoeenaf
end Go.Proofs.Ytakonfkefoeenaf
