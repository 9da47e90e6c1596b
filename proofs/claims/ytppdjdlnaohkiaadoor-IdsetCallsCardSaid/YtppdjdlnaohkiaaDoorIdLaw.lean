/-
  The laws of layer 6: IdsetTurned, given what is said of the program.
-/
import Derived.Test.YtppdjdlnaohkiaaDoorIdList
import Derived.Test.YtppdjdlnaohkiaaDoorIdTab
namespace Go.Proofs.YtppdjdlnaohkiaaDoor
open Go.RowKit

/-- What is known of the program's functions. -/
def isInt (i : Int) : Prop := -9223372036854775808 ≤ i ∧ i ≤ 9223372036854775807
def HasSaid : Prop := ∀ (s : Nat) (i : Int) (w : World), s < 18446744073709551616 → isInt i →
    Calls Tryd.prog 9 #[.int .u64 s, .int .i64 i] w fun e w' => e = .returned (.bool (hasN s i)) ∧ ∃ n, w' = w.drewN n
def WithSaid : Prop := ∀ (s : Nat) (i : Int) (w : World), s < 18446744073709551616 → isInt i →
    Calls Tryd.prog 11 #[.int .u64 s, .int .i64 i] w fun e w' => e = .returned (.int .u64 (withN s i : Int)) ∧ ∃ n, w' = w.drewN n
def WithoutSaid : Prop := ∀ (s : Nat) (i : Int) (w : World), s < 18446744073709551616 → isInt i →
    Calls Tryd.prog 13 #[.int .u64 s, .int .i64 i] w fun e w' => e = .returned (.int .u64 (withoutN s i : Int)) ∧ ∃ n, w' = w.drewN n
def WithinSaid : Prop := ∀ (a b : Nat) (w : World), a < 18446744073709551616 → b < 18446744073709551616 →
    Calls Tryd.prog 18 #[.int .u64 a, .int .u64 b] w fun e w' => e = .returned (.bool (withinN a b)) ∧ ∃ n, w' = w.drewN n
def AwakeSaid : Prop := ∀ w : World, TabOk w → Calls Tryd.prog 6 #[] w fun e w' => e = .returned (.bool true) ∧ Below w.heap.size w w'

theorem has_with_same (s : Nat) (i : Int) : hasN (withN s i) i = okI i := by
  rw [has_with]
  unfold hasN
  cases okI i <;> simp
theorem has_without_same (s : Nat) (i : Int) : hasN (withoutN s i) i = false := by rw [has_without]; simp
theorem has_with_other (s : Nat) {i k : Int} (h : ¬ k = i) : hasN (withN s i) k = hasN s k := by
  have : ¬ i = k := fun e => h e.symm
  rw [has_with]; simp [this]
theorem has_without_other (s : Nat) {i k : Int} (h : ¬ k = i) : hasN (withoutN s i) k = hasN s k := by
  have : ¬ i = k := fun e => h e.symm
  rw [has_without]; simp [this]

set_option maxRecDepth 100000 in
set_option maxHeartbeats 1600000 in
theorem turned_any (hA : AwakeSaid) (hH : HasSaid) (hW : WithSaid) (hO : WithoutSaid) (hI : WithinSaid) (s : Nat) (i k : Int) (w : World) (hs : s < 18446744073709551616) (hi : isInt i) (hk : isInt k) (hT : TabOk w) :
    Calls Tryd.prog 5 #[.int .u64 s, .int .i64 i, .int .i64 k] w fun e w' => e = .returned (.bool true) ∧ Below w.heap.size w w' := by
  have HA := Lib.hid (hA w hT)
  have l1 := withN_lt (i := i) hs
  have l0 := withoutN_lt (i := i) hs
  have H1 := Lib.hid (fun W => hW s i W hs hi)
  have H2 := Lib.hid (fun W => hO s i W hs hi)
  have H3 := Lib.hid (fun W => has_with_same s i ▸ hH (withN s i) i W l1 hi)
  have H4 := Lib.hid (fun W => has_without_same s i ▸ hH (withoutN s i) i W l0 hi)
  have H5 := Lib.hid (fun (h : ¬ k = i) W => has_with_other s h ▸ hH (withN s i) k W l1 hk)
  have H6 := Lib.hid (fun (h : ¬ k = i) W => has_without_other s h ▸ hH (withoutN s i) k W l0 hk)
  have H7 := Lib.hid (fun W => hH s k W hs hk)
  have H8 := Lib.hid (fun W => without_within s i ▸ hI (withoutN s i) s W l0 hs)
  have H9 := Lib.hid (fun W => within_with s i ▸ hI s (withN s i) W hs l1)
  have H10 := Lib.hid (fun W => without_with s i ▸ hO (withN s i) i W l1 hi)
  have H11 := Lib.hid (fun W => with_without s i ▸ hW (withoutN s i) i W l0 hi)
  obtain ⟨z1, hz1⟩ : ∃ z, withN s i = z := ⟨_, rfl⟩
  obtain ⟨z0, hz0⟩ : ∃ z, withoutN s i = z := ⟨_, rfl⟩
  obtain ⟨t, ht⟩ : ∃ t, hasN s k = t := ⟨_, rfl⟩
  rw [hz1] at H1 H3 H5 H9 H10 H11
  rw [hz0] at H2 H4 H6 H8 H10 H11
  rw [ht] at H5 H6 H7
  clear hz1 hz0 ht l1 l0 hA hH hW hO hI hT
  obtain ⟨T, hT⟩ : ∃ T, okI i = T := ⟨_, rfl⟩
  rw [hT] at H3
  obtain (⟨c0, c1, rfl⟩ | ⟨c0, c1, rfl⟩ | ⟨c0, rfl⟩) : (0 ≤ i ∧ i < 64 ∧ T = true) ∨ (0 ≤ i ∧ ¬ i < 64 ∧ T = false) ∨ (¬ 0 ≤ i ∧ T = false) := by
    rw [← hT]
    simp [okI]
    omega
  all_goals
    clear hT hs hi hk
    go_enter Tryd.func5, Tryd.ntmps5
    go_wp2_with fail
    refine HA.out.mono ?_
    rintro e w1 ⟨rfl, hbel⟩
    have HB := Lib.hid hbel
    clear hbel
    go_wp2_with fail
    with_reducible refine (H1.out _).mono ?_
    rintro e w2 ⟨rfl, n1, rfl⟩
    go_wp2_with fail
    with_reducible refine (H2.out _).mono ?_
    rintro e w2 ⟨rfl, n2, rfl⟩
    go_wp2_with fail
    with_reducible refine (H3.out _).mono ?_
    rintro e w2 ⟨rfl, n3, rfl⟩
    go_wp2_with fail
    with_reducible refine (H4.out _).mono ?_
    rintro e w2 ⟨rfl, n4, rfl⟩
    by_cases hki : k = i
    · have d1 : (k == i) = true := by simp [hki]
      have d2 : (k != i) = false := by simp [hki]
      go_wp2_with fail
      with_reducible refine (H8.out _).mono ?_
      rintro e w2 ⟨rfl, m, rfl⟩
      go_wp2_with fail
      with_reducible refine (H9.out _).mono ?_
      rintro e w2 ⟨rfl, m, rfl⟩
      go_wp2_with fail
      with_reducible refine (H10.out _).mono ?_
      rintro e w2 ⟨rfl, m, rfl⟩
      go_wp2_with fail
      with_reducible refine (H11.out _).mono ?_
      rintro e w2 ⟨rfl, m, rfl⟩
      go_wp2
      go_ret
      refine ⟨rfl, ?_⟩
      repeat refine below_drewN ?_ _
      exact HB.out
    · have d1 : (k == i) = false := by simpa using hki
      have d2 : (k != i) = true := by simpa using hki
      have d3 : (t != t) = false := by simp
      have d4 : (t == t) = true := by simp
      go_wp2_with fail
      with_reducible refine (H5.out hki _).mono ?_
      rintro e w2 ⟨rfl, m, rfl⟩
      go_wp2_with fail
      with_reducible refine (H7.out _).mono ?_
      rintro e w2 ⟨rfl, m, rfl⟩
      go_wp2_with fail
      with_reducible refine (H6.out hki _).mono ?_
      rintro e w2 ⟨rfl, m, rfl⟩
      go_wp2_with fail
      with_reducible refine (H7.out _).mono ?_
      rintro e w2 ⟨rfl, m, rfl⟩
      go_wp2_with fail
      with_reducible refine (H8.out _).mono ?_
      rintro e w2 ⟨rfl, m, rfl⟩
      go_wp2_with fail
      with_reducible refine (H9.out _).mono ?_
      rintro e w2 ⟨rfl, m, rfl⟩
      go_wp2_with fail
      with_reducible refine (H10.out _).mono ?_
      rintro e w2 ⟨rfl, m, rfl⟩
      go_wp2_with fail
      with_reducible refine (H11.out _).mono ?_
      rintro e w2 ⟨rfl, m, rfl⟩
      go_wp2
      go_ret
      refine ⟨rfl, ?_⟩
      repeat refine below_drewN ?_ _
      exact HB.out
end Go.Proofs.YtppdjdlnaohkiaaDoor
