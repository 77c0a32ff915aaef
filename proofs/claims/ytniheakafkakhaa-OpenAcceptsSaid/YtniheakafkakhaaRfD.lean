/- mp's table of families: its two numbers; mp.Family, mp.Codes, the families of a refresh; slices.Contains at one or two ints -/
import Derived.Test.YtniheakafkakhaaRfC
import Derived.Test.YtniheakafkakhaaCat
import Derived.Test.YtniheakafkakhaaOctC
import Derived.Test.YtniheakafkakhaaEq
namespace Go.Proofs.Ytniheakafkakhaa
open Go.RowKit Extern.Stop

/-- The family of two numbers. -/
def famOf (a c : Int) : Int := if c = 1 ∧ (a = 1 ∨ a = 2) then a else 0
/-- Whether a family is among those of a session. -/
def famIn (a3 : Bool) (x : Int) : Bool := decide (x = 1) || (decide (x = 2) && a3)
end Go.Proofs.Ytniheakafkakhaa
