/-
  The library's calls that fixq is made of, over whole numbers: bits.Add64, bits.Sub64, bits.Mul64, bits.LeadingZeros64, cmp.Compare.
-/
import Derived.Test.YtaohihfhgialnaaRows
import Derived.Test.YtaohihfhgialnaaShelf
import Derived.Test.YtaohihfhgialnaaFixMath
import Derived.Shelf.Spec.BitsCarry
import Derived.WalkKit
import Derived.WalkSpells
import Derived.WalkLawsBesides
namespace Go.Proofs.Ytaohihfhgialnaa
open Go.RowKit Go.Shelf

theorem add64 (x y : Int) (hx : Word x) (hy : Word y) (w : World) : (callFunc 23 #[.int .u64 x, .int .u64 y, .int .u64 0]).run Try.prog w =
    .ok (.value (.tuple #[.int .u64 (loW (x + y)), .int .u64 (hiW (x + y))])) w := by
  obtain ⟨x0, x1⟩ := hx
  obtain ⟨y0, y1⟩ := hy
  obtain ⟨x, rfl⟩ := Int.eq_ofNat_of_zero_le x0
  obtain ⟨y, rfl⟩ := Int.eq_ofNat_of_zero_le y0
  have h := run_callFunc_extern (P := Try.prog) Try.func23 (by kernel_rfl) (by kernel_rfl) (by kernel_rfl) (e := add64Entry) (by kernel_rfl) (args := #[.int .u64 (x : Int), .int .u64 (y : Int), .int .u64 0]) (w := w)
  have h2 := run_add64 (P := Try.prog) x y 0 (by omega) (by omega) (by omega) (by omega) w
  rw [h2] at h
  simp only [Result.andThen, Int.add_zero] at h
  exact h

theorem sub64 (x y b : Int) (hx : Word x) (hy : Word y) (b0 : 0 ≤ b) (b1 : b ≤ 1) (w : World) : (callFunc 33 #[.int .u64 x, .int .u64 y, .int .u64 b]).run Try.prog w =
    .ok (.value (.tuple #[.int .u64 (loW (x - y - b)), .int .u64 (-(hiW (x - y - b)))])) w := by
  obtain ⟨x0, x1⟩ := hx
  obtain ⟨y0, y1⟩ := hy
  obtain ⟨x, rfl⟩ := Int.eq_ofNat_of_zero_le x0
  obtain ⟨y, rfl⟩ := Int.eq_ofNat_of_zero_le y0
  obtain ⟨b, rfl⟩ := Int.eq_ofNat_of_zero_le b0
  have h := run_callFunc_extern (P := Try.prog) Try.func33 (by kernel_rfl) (by kernel_rfl) (by kernel_rfl) (e := sub64Entry) (by kernel_rfl) (args := #[.int .u64 (x : Int), .int .u64 (y : Int), .int .u64 (b : Int)]) (w := w)
  rw [run_sub64 x y b (by omega)] at h
  refine h.trans ?_
  simp only [Result.andThen]
  unfold loW hiW
  have e1 : (((x + 18446744073709551616 - y - b) % 18446744073709551616 : Nat) : Int) = ((x : Int) - y - b) % 18446744073709551616 := by omega
  have e2 : ((if x < y + b then 1 else 0 : Nat) : Int) = -(((x : Int) - y - b) / 18446744073709551616) := by split <;> omega
  rw [e1, e2]

theorem sub64_0 (x y : Int) (hx : Word x) (hy : Word y) (w : World) : (callFunc 33 #[.int .u64 x, .int .u64 y, .int .u64 0]).run Try.prog w =
    .ok (.value (.tuple #[.int .u64 (loW (x - y)), .int .u64 (borW x y)])) w := by
  have h := sub64 x y 0 hx hy (by omega) (by omega) w
  rw [Int.sub_zero] at h
  exact h

theorem mul64 (x y : Int) (hx : Word x) (hy : Word y) (w : World) :
    Calls Try.prog 34 #[.int .u64 x, .int .u64 y] w fun e w' => e = .returned (.tuple #[.int .u64 (hiW (x * y)), .int .u64 (loW (x * y))]) ∧ w = w' := by
  obtain ⟨x0, x1⟩ := hx
  obtain ⟨y0, y1⟩ := hy
  obtain ⟨x, rfl⟩ := Int.eq_ofNat_of_zero_le x0
  obtain ⟨y, rfl⟩ := Int.eq_ofNat_of_zero_le y0
  refine (Try.bits_Mul64 x y (by omega) (by omega) w).mono fun e w' ⟨he, hw⟩ => ⟨he.trans ?_, hw.symm⟩
  unfold hiW loW
  rfl

theorem isNaN_any (x : Int) (w : World) : Calls Try.prog 35 #[.int .u64 x] w fun e w' => e = .returned (.bool false) ∧ w = w' := by
  have h : (x != x) = false := by simp
  go_enter Try.func35, Try.ntmps35
  go_wp2
  go_ret
  exact ⟨rfl, rfl⟩

theorem cmp_any (x y : Int) (w : World) : Calls Try.prog 32 #[.int .u64 x, .int .u64 y] w fun e w' => e = .returned (.int .i64 (ordW x y)) ∧ w = w' := by
  by_cases h1 : x < y
  · have e := ordW_lt h1
    rw [e]
    clear e
    go_enter Try.func32, Try.ntmps32
    go_wp2_with (go_at_call 35; refine (isNaN_any _ _).mono ?_; rintro e w' ⟨rfl, rfl⟩)
    go_ret
    exact ⟨rfl, rfl⟩
  · by_cases h2 : y < x
    · have e := ordW_gt h2
      rw [e]
      clear e
      go_enter Try.func32, Try.ntmps32
      go_wp2_with (go_at_call 35; refine (isNaN_any _ _).mono ?_; rintro e w' ⟨rfl, rfl⟩)
      go_ret
      exact ⟨rfl, rfl⟩
    · have e := ordW_eq (x := x) (y := y) (by omega)
      rw [e]
      clear e
      go_enter Try.func32, Try.ntmps32
      go_wp2_with (go_at_call 35; refine (isNaN_any _ _).mono ?_; rintro e w' ⟨rfl, rfl⟩)
      go_ret
      exact ⟨rfl, rfl⟩
end Go.Proofs.Ytaohihfhgialnaa
