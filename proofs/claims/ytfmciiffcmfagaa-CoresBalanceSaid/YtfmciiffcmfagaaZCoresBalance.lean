/-
  CoresBalance is proved as it stands: for any arguments that can be read, the law answers true and changes nothing that it was given; it is bound by no condition of ours.
-/
import Derived.Test.YtfmciiffcmfagaaZAF
import Derived.Test.YtfmciiffcmfagaaZAS
import Derived.Test.YtfmciiffcmfagaaZAl
set_option maxRecDepth 100000
set_option maxHeartbeats 25600000
namespace Go.Proofs.Ytfmciiffcmfagaa
open Go.RowKit
theorem coresBalance_holds:Rows.CoresBalanceSaid:=coresBalance_of rpSaid coSaid
end Go.Proofs.Ytfmciiffcmfagaa
