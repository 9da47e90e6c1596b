/-
  A slice of ints, as it is read.
-/
import Derived.Test.YtaohihfhgialnaaArOwn
namespace Go.Proofs.Ytaohihfhgialnaa
open Go.RowKit

/-- A slice of ints as it is read. -/
structure IArg (w : World) (ao : Option Addr) (b off : Nat) (L : List Int) : Prop where
  at_ : 0 < L.length → ao = some ⟨b, off, none⟩ ∧ b < w.heap.size
  cells : ∀ i (hi : i < L.length), w.cell? ⟨b, off + i, none⟩ = some (.int .i64 L[i])
theorem IArg.below {w w' : World} {ao : Option Addr} {b off : Nat} {L : List Int} (h : IArg w ao b off L) (hb : Below w.heap.size w w') : IArg w' ao b off L := by
  refine ⟨fun h0 => ⟨(h.at_ h0).1, Nat.lt_of_lt_of_le (h.at_ h0).2 hb.size⟩, fun i hi => ?_⟩
  have hl := (h.at_ (by omega)).2
  exact (hb.cell (p := ⟨b, off + i, none⟩) hl).trans (h.cells i hi)
end Go.Proofs.Ytaohihfhgialnaa
