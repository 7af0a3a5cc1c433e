/- Numbers of bytes: the model's and the program's. -/
import Derived.Test.YtkddbcgjbmimaafData4
import Derived.Test.YtkddbcgjbmimaafBig1
namespace Go.Proofs.Ytkddbcgjbmimaaf
end Go.Proofs.Ytkddbcgjbmimaaf
