/-
  The library's table of places (math/bits), as it lies in its variable.
-/
import Derived.Test.YtppdjdlnaohkiaaDoorArOwn
import Derived.Lib.TrailingZeros
namespace Go.Proofs.YtppdjdlnaohkiaaDoor
open Go.RowKit

/-- The library's table lies as its initialiser lays it. -/
def TabOk (w : World) : Prop := ∀ j, j < 64 → w.cell? ⟨0, j, none⟩ = some (.int .u8 (Lib.deBruijn64tab.getD j 0))
theorem TabOk.below {n : Nat} {w w' : World} (h : TabOk w) (hb : Below n w w') (hn : 0 < n) : TabOk w' := fun j hj => by
  rw [hb.cell (p := ⟨0, j, none⟩) hn]
  exact h j hj
theorem TabOk.drewN {w : World} (h : TabOk w) (n : Nat) : TabOk (w.drewN n) := h
theorem TabOk.lt {w : World} (h : TabOk w) : 0 < w.heap.size := by
  have h0 := h 0 (by decide)
  unfold World.cell? at h0
  refine Nat.lt_of_not_le fun hle => ?_
  rw [Array.getElem?_eq_none hle] at h0
  simp at h0

theorem TabOk.same {w w' : World} (h : TabOk w) (hs : w'.heap[0]? = w.heap[0]?) : TabOk w' := fun j hj => by
  have := h j hj
  unfold World.cell? at this ⊢
  rw [hs]
  exact this
theorem TabOk.turned {X : List Nat} {w w' : World} (h : TabOk w) (t : Turned X w w') (hX : 0 ∉ X) : TabOk w' := h.same (t.block _ h.lt hX)

end Go.Proofs.YtppdjdlnaohkiaaDoor
