/- Proved: WaitqRuns, as it stands: whoever waits, is woken, cancelled, sent elsewhere, or expires, over however many buckets, the program's table answers as the document's does, for every three numbers and every list of deeds. Conditions: none beside those of the given statement. -/
import Derived.Test.YtiffgkmmibhklaaWqRow
import Derived.Test.YtiffgkmmibhklaaWlSaid
namespace Go.Proofs.Ytiffgkmmibhklaa
theorem waitqRuns_holds : Rows.WaitqRunsSaid := waitqRuns_of wlSaid
end Go.Proofs.Ytiffgkmmibhklaa
