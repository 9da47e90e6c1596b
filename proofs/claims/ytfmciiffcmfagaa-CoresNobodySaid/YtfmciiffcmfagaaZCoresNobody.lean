/-
  CoresNobody is proved as it stands: for any arguments that can be read, the law answers true and changes nothing that it was given; it is bound by no condition of ours.
-/
import Derived.Test.YtfmciiffcmfagaaZAH
import Derived.Test.YtfmciiffcmfagaaZAT
import Derived.Test.YtfmciiffcmfagaaZAl
set_option maxRecDepth 100000
set_option maxHeartbeats 25600000
namespace Go.Proofs.Ytfmciiffcmfagaa
open Go.RowKit
theorem coresNobody_holds:Rows.CoresNobodySaid:=coresNobody_of rpSaid coSaid coNil
end Go.Proofs.Ytfmciiffcmfagaa
