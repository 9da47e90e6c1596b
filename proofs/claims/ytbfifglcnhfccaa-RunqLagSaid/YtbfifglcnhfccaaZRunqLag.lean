/-
  RunqLag is proved as it stands: for any arguments that can be read, the law answers true and changes nothing that it was given; it is bound by no condition of ours.
-/
import Derived.Test.YtbfifglcnhfccaaZAR
import Derived.Test.YtbfifglcnhfccaaZAN
import Derived.Test.YtbfifglcnhfccaaZAO
import Derived.Test.YtbfifglcnhfccaaZAl
set_option maxRecDepth 100000
set_option maxHeartbeats 25600000
namespace Go.Proofs.Ytbfifglcnhfccaa
open Go.RowKit
theorem runqLag_holds:Rows.RunqLagSaid:=runqLag_of rpSaid unGiven
end Go.Proofs.Ytbfifglcnhfccaa
