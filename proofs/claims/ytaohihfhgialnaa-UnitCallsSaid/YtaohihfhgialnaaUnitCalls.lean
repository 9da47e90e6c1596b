/-
  UnitCalls is proved as it stands: for any numbers that can be read, the law answers true and changes nothing that it was given; it is bound by no condition of ours.
-/
import Derived.Test.YtaohihfhgialnaaUnRowCalls
import Derived.Test.YtaohihfhgialnaaUnFairP
namespace Go.Proofs.Ytaohihfhgialnaa
open Go.RowKit

theorem unitCalls_holds : Rows.UnitCallsSaid := unitCalls_of unSaid
end Go.Proofs.Ytaohihfhgialnaa
