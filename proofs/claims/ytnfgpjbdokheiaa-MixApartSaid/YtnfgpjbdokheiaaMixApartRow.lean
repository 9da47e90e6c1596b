/-
  The statement MixApart: for every two numbers x and y, and every n, MixApart answers true, and all that it is given stays as it was. No conditions.
-/
import Derived.Test.YtnfgpjbdokheiaaMixRows
import Derived.Test.YtnfgpjbdokheiaaMixProg
namespace Go.Proofs.Ytnfgpjbdokheiaa
theorem mixApart : Rows.MixApartSaid := mixApart_of ord_said
end Go.Proofs.Ytnfgpjbdokheiaa
