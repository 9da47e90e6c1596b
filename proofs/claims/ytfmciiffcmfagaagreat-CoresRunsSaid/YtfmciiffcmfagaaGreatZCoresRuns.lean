/-
  CoresRuns is proved as it stands: for any arguments that can be read, the law answers true and changes nothing that it was given; it is bound by no condition of ours.
-/
import Derived.Test.YtfmciiffcmfagaaGreatZAL
import Derived.Test.YtfmciiffcmfagaaGreatZAY
import Derived.Test.YtfmciiffcmfagaaGreatZAl
set_option maxRecDepth 100000
set_option maxHeartbeats 25600000
namespace Go.Proofs.YtfmciiffcmfagaaGreat
open Go.RowKit
theorem coresRuns_holds:Rows.CoresRunsSaid:=coresRuns_of rpSaid coSaid
end Go.Proofs.YtfmciiffcmfagaaGreat
