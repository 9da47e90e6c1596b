/-
  RunqNobody is proved as it stands: for any numbers, the law answers true; it is bound by no condition of ours.
-/
import Derived.Test.YtbfifglcnhfccaaZAU
import Derived.Test.YtbfifglcnhfccaaZAX
import Derived.Test.YtbfifglcnhfccaaZAl
set_option maxRecDepth 100000
set_option maxHeartbeats 25600000
namespace Go.Proofs.Ytbfifglcnhfccaa
open Go.RowKit
theorem runqNobody_holds:Rows.RunqNobodySaid:=runqNobody_of rpSaid rpNil
end Go.Proofs.Ytbfifglcnhfccaa
