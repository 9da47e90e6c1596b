/-
  The reference's Less and Minus.
-/
import Derived.Test.YtaohihfhgialnaaRefSum
namespace Go.Proofs.Ytaohihfhgialnaa
open Go.RowKit Go.Shelf

/-- From k up to n the digits are the same. -/
def Same (A B : List Int) (k n : Nat) : Prop := ∀ j, k ≤ j → j < n → dg A j = dg B j

end Go.Proofs.Ytaohihfhgialnaa
