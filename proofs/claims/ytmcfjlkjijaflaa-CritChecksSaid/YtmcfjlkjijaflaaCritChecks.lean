/-
  CritChecks is proved as it stands: for every program, all locks and every number of programs that can be read, the law answers true and changes nothing that it was given; it is bound by no condition of ours.
-/
import Derived.Test.YtmcfjlkjijaflaaRowChecks
import Derived.Test.YtmcfjlkjijaflaaCrIs
namespace Go.Proofs.Ytmcfjlkjijaflaa
open Go.RowKit

theorem critChecks_holds : Rows.CritChecksSaid := critChecks_of crSaid (fun _ => trivial)
end Go.Proofs.Ytmcfjlkjijaflaa
