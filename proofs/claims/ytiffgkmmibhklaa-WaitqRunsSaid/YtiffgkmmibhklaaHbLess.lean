/-
  comesAhead: which of two is due ahead of the other.
-/
import Derived.Test.YtiffgkmmibhklaaGA
import Derived.Test.YtiffgkmmibhklaaHbAt
import Derived.Deep.RegionHeld3
import Derived.StillTailTactics
import Derived.IntWalk
namespace Go.Proofs.Ytiffgkmmibhklaa
open Go.RowKit

/-- Reads and quiet calls ahead of a forced tail, the world behind the draw under a name of its own. -/
theorem two_cells {w : World} {b : Nat} {x y : Value} {t : TypeId} (h : w.heap[b]? = some (.cells #[x, y] t (0, 0))) :
    w.cell? ⟨b, 0, none⟩ = some x ∧ w.cell? ⟨b, 1, none⟩ = some y ∧ ∀ i, w.frozen? ⟨b, i, none⟩ = false := cells2 h

set_option maxHeartbeats 400000 in
theorem less_any (a1 a2 b1 b2 : Int) (w : World) : Calls Try.prog 80 #[.agg #[.int .u64 a1, .int .i64 a2], .agg #[.int .u64 b1, .int .i64 b2]] w fun e w' => e = .returned (.bool (decide (KLt (a1, a2) (b1, b2)))) ∧ Turned [] w w' := by
  have hT : Turned [] w ((w.alloc (.cells #[.int .u64 a1, .int .i64 a2] 71)).alloc (.cells #[.int .u64 b1, .int .i64 b2] 71)) := ((Turned.refl [] w).alloc _).alloc _
  have HT := Lib.hid hT
  clear hT
  by_cases h1 : a1 = b1
  · subst h1
    have e : decide (KLt (a1, a2) (a1, b2)) = decide (a2 < b2) := by
      apply decide_eq_decide.2
      unfold KLt
      simp
    rw [e]
    have hn : (a1 != a1) = false := by simp
    clear e
    go_enter Try.func80, Try.ntmps80
    go_wp2
    go_ret
    exact ⟨rfl, HT.out⟩
  · have e : decide (KLt (a1, a2) (b1, b2)) = decide (a1 < b1) := by
      apply decide_eq_decide.2
      unfold KLt
      simp [h1]
    rw [e]
    have hn : (a1 != b1) = true := by simpa using h1
    clear e
    go_enter Try.func80, Try.ntmps80
    go_wp2
    go_ret
    exact ⟨rfl, HT.out⟩
end Go.Proofs.Ytiffgkmmibhklaa
