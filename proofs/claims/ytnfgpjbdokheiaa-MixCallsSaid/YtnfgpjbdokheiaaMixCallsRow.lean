/-
  The statement MixCalls: for every number x, key and n, MixCalls answers true, and all that it is given stays as it was. No conditions.
-/
import Derived.Test.YtnfgpjbdokheiaaMixRows
import Derived.Test.YtnfgpjbdokheiaaMixProg
namespace Go.Proofs.Ytnfgpjbdokheiaa
theorem mixCalls : Rows.MixCallsSaid := mixCalls_of ord_said
end Go.Proofs.Ytnfgpjbdokheiaa
