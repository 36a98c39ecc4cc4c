/- HELPERS: the small tests of a program's instructions. -/
import Derived.Test.YtpckbpimgoljoaaGreatK2
import Derived.Test.YtpckbpimgoljoaaGreatRi

namespace Go.Proofs.YtpckbpimgoljoaaGreat
open Go.RowKit
set_option linter.unusedVariables false
set_option linter.unusedSimpArgs false
def belowB (n c : Int) : Bool := decide (0 ≤ n) && decide (n < c)
def capsB (c : Int) : Bool := decide (2 ≤ c) && decide (c ≤ 1002) && (c % 2 == 0)
def hasXB (op : Int) : Bool := op == 1 || op == 2 || op == 3 || op == 4 || op == 7
def hasYB (op : Int) : Bool := op == 2
def isTargetB (to : Int) (has : Bool) (c : Int) : Bool := if has then belowB to c else to == 0
def isArgB (op arg caps : Int) : Bool := if op == 3 then belowB arg caps else if op == 4 then assertB arg else if op == 5 then belowB arg 100 else if op == 1 || op == 2 || op == 6 || op == 7 then arg == 0 else false
def isRangesB (op : Int) (R : List (Int × Int)) : Bool := if op == 1 then decide (0 < R.length) && rightB R else R.length == 0
end Go.Proofs.YtpckbpimgoljoaaGreat

