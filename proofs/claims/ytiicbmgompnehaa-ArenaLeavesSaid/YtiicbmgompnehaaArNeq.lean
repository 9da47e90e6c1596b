/-
  '!=' between two pairs of integers.
-/
import Derived.Test.YtiicbmgompnehaaArLeafEnv
import Derived.Laws.StructEq
import Derived.ChangeKeysEq
namespace Go.Proofs.Ytiicbmgompnehaa
open Go.RowKit

theorem neq_pair (a b c d : Int) (w : World) : (binOp .neq 50 (.agg #[.int .i64 a, .int .i64 b]) (.agg #[.int .i64 c, .int .i64 d])).run Try.prog w = .ok (.bool (!(a == c && b == d))) w := by
  have u3 := Try.underlying3
  have u50 := Try.underlying50
  have z3 := Try.sizeOf3
  rw [run_neq_struct]
  have e : (10000 : Nat) = 9999 + 1 := rfl
  rw [e]
  obtain ⟨i0, hi, _⟩ := info_parts infoInt
  rw [run_equalIn_array w 9999 _ _ u50 hi]
  have hc : Try.prog.cellsOf 3 = 1 := by kernel_rfl
  have a3 := Try.isAgg3
  rw [hc, show List.range 2 = [0, 1] from rfl]
  clear u50 e hi
  simp only [Op.eqItems]
  go_simp
  by_cases h1 : a = c <;> by_cases h2 : b = d <;> simp [h1, h2]
end Go.Proofs.Ytiicbmgompnehaa
