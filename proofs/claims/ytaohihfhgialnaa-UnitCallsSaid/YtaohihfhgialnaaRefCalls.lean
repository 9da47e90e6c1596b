/-
  What the reference's Add, Sub, Mul, Compare and Near answer, at every argument.
-/
import Derived.Test.YtaohihfhgialnaaRefTimes
import Derived.Test.YtaohihfhgialnaaRefLess
namespace Go.Proofs.Ytaohihfhgialnaa
open Go.RowKit Go.Shelf

set_option maxHeartbeats 800000 in
theorem refadd_any (a b : Int) (ha : Word a) (hb : Word b) (w : World) :
    Calls Try.prog 20 #[.int .u64 a, .int .u64 b] w fun e w' => e = .returned (.tuple #[.int .u64 (satV (a + b)), .int .i64 (satE (a + b))]) ∧ Below w.heap.size w w' := by
  have N1 := Lib.hid (number_any a ha)
  have N2 := Lib.hid (number_any b hb)
  go_enter Try.func20, Try.ntmps20
  go_wp2_with fail
  refine (N1.out _).mono ?_
  rintro e w1 ⟨v1, rfl, n1, b1⟩
  go_wp2_with fail
  refine (N2.out _).mono ?_
  rintro e w2 ⟨v2, rfl, n2, b2⟩
  have S := Lib.hid (sum_any (n1.below b2) n2 (by omega) (by omega))
  go_wp2_with fail
  refine S.out.mono ?_
  rintro e w3 ⟨v3, rfl, n3, b3⟩
  have F := Lib.hid (fits_any n3 (by omega))
  go_wp2_with fail
  refine F.out.mono ?_
  rintro e w4 ⟨rfl, rfl⟩
  go_wp2
  go_ret2
  have z1 := b1.size
  have z2 := b2.size
  exact ⟨rfl, (b1.trans (b2.mono z1)).trans (b3.mono (by omega))⟩

end Go.Proofs.Ytaohihfhgialnaa
