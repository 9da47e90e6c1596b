/- Proved: WaitqOnce, as it stands: who waits without an end is never expired; who waits is woken once, in the order in which they came, whatever their numbers are; a nil table answers as it must; for every list of waits, every key, every number of buckets. Conditions: none beside those of the given statement. -/
import Derived.Test.YtiffgkmmibhklaaWqOnRow
import Derived.Test.YtiffgkmmibhklaaWlSaid
namespace Go.Proofs.Ytiffgkmmibhklaa
theorem waitqOnce_holds : Rows.WaitqOnceSaid := waitqOnce_of wlSaid wqNil
end Go.Proofs.Ytiffgkmmibhklaa
