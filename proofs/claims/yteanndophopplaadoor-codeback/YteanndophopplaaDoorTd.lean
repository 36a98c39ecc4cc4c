/- HELPERS: which nodes may be, by the document's answer. -/
import Derived.Test.YteanndophopplaaDoorTc
import Derived.Test.YteanndophopplaaDoorRi
namespace Go.Proofs.YteanndophopplaaDoor
open Go.RowKit
set_option linter.unusedVariables false
set_option linter.unusedSimpArgs false
/-- all is nought but what is named -/
def assertB (n : Int) : Bool := n == 1 || n == 2 || n == 4 || n == 8 || n == 16 || n == 32
end Go.Proofs.YteanndophopplaaDoor
