/-
  Kinds of bytes, for the program and for the document. (Made by gen_byte.py.)
-/
import Derived.Test.YtalnejbpgollkaaDoorChecked
import Derived.Test.YtalnejbpgollkaaDoorTkMath
import Derived.Lib.Hide
import Derived.WalkKit
namespace Go.Proofs.YtalnejbpgollkaaDoor
open Go.RowKit

theorem geb (c : By) (k : Nat) : decide ((k : Int) ≤ (c.toNat : Int)) = decide (k ≤ c.toNat) := by rw [Bool.eq_iff_iff]; simp
theorem leb (c : By) (k : Nat) : decide ((c.toNat : Int) ≤ (k : Int)) = decide (c.toNat ≤ k) := by rw [Bool.eq_iff_iff]; simp
theorem eqb (c : By) (k : Nat) : (((c.toNat : Nat) : Int) == (k : Int)) = decide (c.toNat = k) := by rw [Bool.eq_iff_iff]; simp; omega
theorem neb (c : By) (k : Nat) : (((c.toNat : Nat) : Int) != (k : Int)) = !decide (c.toNat = k) := by rw [bne, eqb]

theorem plet_z (z : Int) (w : World) : Calls Tryd.prog 25 #[.int .u8 z] w fun e w' => e = .returned (.bool (decide (97 ≤ z) && decide (z ≤ 122))) ∧ w' = w := by
  cases h0 : (decide (97 ≤ z))
  all_goals
    go_enter Tryd.func25, Tryd.ntmps25
    go_wp2
    go_ret
    exact ⟨rfl, rfl⟩
theorem plet_any (c : By) (w : World) : Calls Tryd.prog 25 #[.int .u8 c.toNat] w fun e w' => e = .returned (.bool (isLet c)) ∧ w' = w := by
  have h := plet_z (c.toNat : Int) w
  rw [show decide ((97 : Int) ≤ (c.toNat : Int)) = decide (97 ≤ c.toNat) from geb c 97, show decide ((c.toNat : Int) ≤ (122 : Int)) = decide (c.toNat ≤ 122) from leb c 122] at h
  exact h

theorem pdig_z (z : Int) (w : World) : Calls Tryd.prog 32 #[.int .u8 z] w fun e w' => e = .returned (.bool (decide (48 ≤ z) && decide (z ≤ 57))) ∧ w' = w := by
  cases h0 : (decide (48 ≤ z))
  all_goals
    go_enter Tryd.func32, Tryd.ntmps32
    go_wp2
    go_ret
    exact ⟨rfl, rfl⟩
theorem pdig_any (c : By) (w : World) : Calls Tryd.prog 32 #[.int .u8 c.toNat] w fun e w' => e = .returned (.bool (isDig c)) ∧ w' = w := by
  have h := pdig_z (c.toNat : Int) w
  rw [show decide ((48 : Int) ≤ (c.toNat : Int)) = decide (48 ≤ c.toNat) from geb c 48, show decide ((c.toNat : Int) ≤ (57 : Int)) = decide (c.toNat ≤ 57) from leb c 57] at h
  exact h

theorem pbl_z (z : Int) (w : World) : Calls Tryd.prog 30 #[.int .u8 z] w fun e w' => e = .returned (.bool ((z == 32) || ((z == 9) || ((z == 10))))) ∧ w' = w := by
  cases h0 : (z == 32) <;> cases h1 : (z == 9)
  all_goals
    go_enter Tryd.func30, Tryd.ntmps30
    go_wp2
    go_ret
    exact ⟨rfl, rfl⟩
theorem pbl_any (c : By) (w : World) : Calls Tryd.prog 30 #[.int .u8 c.toNat] w fun e w' => e = .returned (.bool (isBl c)) ∧ w' = w := by
  have h := pbl_z (c.toNat : Int) w
  rw [show ((c.toNat : Int) == (32 : Int)) = decide (c.toNat = 32) from eqb c 32, show ((c.toNat : Int) == (9 : Int)) = decide (c.toNat = 9) from eqb c 9, show ((c.toNat : Int) == (10 : Int)) = decide (c.toNat = 10) from eqb c 10] at h
  exact h

theorem rlet_z (z : Int) (w : World) : Calls Tryd.prog 27 #[.int .u8 z] w fun e w' => e = .returned (.bool (decide (97 ≤ z) && decide (z ≤ 122))) ∧ w' = w := by
  cases h0 : (decide (97 ≤ z))
  all_goals
    go_enter Tryd.func27, Tryd.ntmps27
    go_wp2
    go_ret
    exact ⟨rfl, rfl⟩
theorem rlet_any (c : By) (w : World) : Calls Tryd.prog 27 #[.int .u8 c.toNat] w fun e w' => e = .returned (.bool (isLet c)) ∧ w' = w := by
  have h := rlet_z (c.toNat : Int) w
  rw [show decide ((97 : Int) ≤ (c.toNat : Int)) = decide (97 ≤ c.toNat) from geb c 97, show decide ((c.toNat : Int) ≤ (122 : Int)) = decide (c.toNat ≤ 122) from leb c 122] at h
  exact h

theorem rdig_z (z : Int) (w : World) : Calls Tryd.prog 28 #[.int .u8 z] w fun e w' => e = .returned (.bool (decide (48 ≤ z) && decide (z ≤ 57))) ∧ w' = w := by
  cases h0 : (decide (48 ≤ z))
  all_goals
    go_enter Tryd.func28, Tryd.ntmps28
    go_wp2
    go_ret
    exact ⟨rfl, rfl⟩
theorem rdig_any (c : By) (w : World) : Calls Tryd.prog 28 #[.int .u8 c.toNat] w fun e w' => e = .returned (.bool (isDig c)) ∧ w' = w := by
  have h := rdig_z (c.toNat : Int) w
  rw [show decide ((48 : Int) ≤ (c.toNat : Int)) = decide (48 ≤ c.toNat) from geb c 48, show decide ((c.toNat : Int) ≤ (57 : Int)) = decide (c.toNat ≤ 57) from leb c 57] at h
  exact h

theorem rmk_z (z : Int) (w : World) : Calls Tryd.prog 29 #[.int .u8 z] w fun e w' => e = .returned (.bool ((z == 123) || ((z == 125) || ((z == 59) || ((z == 46) || ((z == 61))))))) ∧ w' = w := by
  cases h0 : (z == 123) <;> cases h1 : (z == 125) <;> cases h2 : (z == 59) <;> cases h3 : (z == 46)
  all_goals
    go_enter Tryd.func29, Tryd.ntmps29
    go_wp2
    go_ret
    exact ⟨rfl, rfl⟩
theorem rmk_any (c : By) (w : World) : Calls Tryd.prog 29 #[.int .u8 c.toNat] w fun e w' => e = .returned (.bool (isMk c)) ∧ w' = w := by
  have h := rmk_z (c.toNat : Int) w
  rw [show ((c.toNat : Int) == (123 : Int)) = decide (c.toNat = 123) from eqb c 123, show ((c.toNat : Int) == (125 : Int)) = decide (c.toNat = 125) from eqb c 125, show ((c.toNat : Int) == (59 : Int)) = decide (c.toNat = 59) from eqb c 59, show ((c.toNat : Int) == (46 : Int)) = decide (c.toNat = 46) from eqb c 46, show ((c.toNat : Int) == (61 : Int)) = decide (c.toNat = 61) from eqb c 61] at h
  exact h

theorem prem_z (z : Int) (w : World) : Calls Tryd.prog 31 #[.int .u8 z] w fun e w' => e = .returned (.bool (z != 10)) ∧ w' = w := by
  go_enter Tryd.func31, Tryd.ntmps31
  go_wp2
  go_ret
  exact ⟨rfl, rfl⟩
theorem prem_any (c : By) (w : World) : Calls Tryd.prog 31 #[.int .u8 c.toNat] w fun e w' => e = .returned (.bool (not10 c)) ∧ w' = w := by
  have h := prem_z (c.toNat : Int) w
  rw [show ((c.toNat : Int) != (10 : Int)) = !decide (c.toNat = 10) from neb c 10] at h
  exact h
end Go.Proofs.YtalnejbpgollkaaDoor
