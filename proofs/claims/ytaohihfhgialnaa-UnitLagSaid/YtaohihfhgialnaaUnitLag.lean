/-
  UnitLag is proved as it stands: for any lists of ticks and weights, and any reach, that can be read, the law answers true and changes nothing that it was given; it is bound by no condition of ours.
-/
import Derived.Test.YtaohihfhgialnaaUnRowLag
import Derived.Test.YtaohihfhgialnaaUnFairP
namespace Go.Proofs.Ytaohihfhgialnaa
open Go.RowKit

theorem unitLag_holds : Rows.UnitLagSaid := unitLag_of unSaid
end Go.Proofs.Ytaohihfhgialnaa
