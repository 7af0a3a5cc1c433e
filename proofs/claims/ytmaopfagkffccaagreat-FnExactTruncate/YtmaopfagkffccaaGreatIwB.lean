import Derived.Test.YtmaopfagkffccaaGreatJICheck
/- impl.messageBytes by its contract. -/
namespace Go.Proofs.YtmaopfagkffccaaGreat
open Go.RowKit
set_option linter.unusedVariables false

end Go.Proofs.YtmaopfagkffccaaGreat
