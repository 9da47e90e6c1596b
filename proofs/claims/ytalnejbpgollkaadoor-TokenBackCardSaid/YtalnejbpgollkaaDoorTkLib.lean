/-
  What the library's Atoi and Itoa answer, in the words of these texts; the library's table.
-/
import Derived.Test.YtalnejbpgollkaaDoorShelf
import Derived.Test.YtalnejbpgollkaaDoorTkCut
import Derived.Lib.AppendIntMem
namespace Go.Proofs.YtalnejbpgollkaaDoor
open Go.RowKit

theorem bytes_below (w : World) (e : TypeId) (s : ByteArray) : Below w.heap.size w (Lib.bytesWorld w e s) :=
  ⟨rfl, rfl, rfl, by rw [Lib.bytesWorld_size]; omega, fun k hk => Lib.bytesWorld_at_old w e s k hk⟩
theorem grow_below (w : World) (k : Nat) (os : Array Obj) : Below w.heap.size w (Go.Sort.grow (w.drewN k) os) := by
  refine ⟨rfl, rfl, rfl, ?_, fun j hj => ?_⟩
  · show w.heap.size ≤ (w.heap ++ os).size
    rw [Array.size_append]; omega
  · show (w.heap ++ os)[j]? = w.heap[j]?
    rw [Array.getElem?_append_left hj]
theorem atoi_said : AtoiSaid := fun s n w hl h => (Tryd.strconv_Atoi s n hl h w).mono fun e w' ⟨he, t, hw⟩ => ⟨he, by rw [hw]; exact bytes_below w _ t⟩

/-- The library's table lies as its initialiser lays it. -/
def TabOk (w : World) : Prop := Lib.TabIs Tryd.prog w "internal/strconv.uint64pow10" .u64 Lib.pow10Tab
theorem TabOk.below {w w' : World} (h : TabOk w) (hb : Below w.heap.size w w') : TabOk w' := Lib.tabBelow_of_tabIs h w' hb
theorem digits_eq (n : Nat) : Lib.decDigits n = digitsR n := by
  by_cases h : n < 10
  · rw [Lib.decDigits, dif_pos h, digits_small h]
  · rw [Lib.decDigits, dif_neg h, digits_great h, digits_eq (n / 10)]
termination_by n
decreasing_by omega
theorem itoa_any (n : Nat) (hn : n ≤ 999999999) (w : World) (hT : TabOk w) :
    Calls Tryd.prog 17 #[.int .i64 n] w fun e w' => e = .returned (.string ⟨(digitsR n).toArray⟩) ∧ Below w.heap.size w w' := by
  have h := Tryd.strconv_Itoa (n : Int) (by omega) (by omega) w hT
  have e : Lib.itoa (n : Int) = digitsR n := by
    unfold Lib.itoa
    rw [if_neg (by omega), Int.toNat_natCast, digits_eq]
  rw [e] at h
  exact h.mono fun e w' ⟨he, k, os, hw⟩ => ⟨he, by rw [hw]; exact grow_below w k os⟩
end Go.Proofs.YtalnejbpgollkaaDoor
