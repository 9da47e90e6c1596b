/-
  The program's contracts, together.
-/
import Derived.Test.YtmcfjlkjijaflaaDoorPgPrint
import Derived.Test.YtmcfjlkjijaflaaDoorPgSame
import Derived.Test.YtmcfjlkjijaflaaDoorRdParse
import Derived.Test.YtmcfjlkjijaflaaDoorPgSaid
namespace Go.Proofs.YtmcfjlkjijaflaaDoor
open Go.RowKit

/-- What is said of the program, over its library's table. -/
def pgSaid : PgSaid where
  Good := TabOk
  keep := fun h hb => h.below hb
  name := fun k w _ _ => pnm_any k w
  may := fun f ao b off cap L w h _ _ _ => pmay_any f ao b off cap L w h
  print := fun f ao b off cap L w h _ _ hT => pprint_any f ao b off cap L w h hT
  words := fun f ao b off cap L w h _ _ _ => pwords_any f ao b off cap L w h
  same := fun f g ao1 ao2 b1 o1 b2 o2 c1 c2 A B w hA hB h1 h2 _ => psame_any f g ao1 ao2 b1 o1 b2 o2 c1 c2 A B w hA hB h1 h2
  parse := fun ao b off cap L at_ w h hm _ hL _ => pparse_any ao b off cap L at_ w h hm hL
end Go.Proofs.YtmcfjlkjijaflaaDoor
