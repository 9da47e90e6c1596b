/-
  The document's is, Name, Limits, One.
-/
import Derived.Test.YtmcfjlkjijaflaaPgVal
namespace Go.Proofs.Ytmcfjlkjijaflaa
open Go.RowKit

theorem rname_out (k : Int) (hk : k < 0 ∨ 11 < k) (h0 : -9223372036854775808 ≤ k) (h1 : k ≤ 9223372036854775807) (w : World) :
    Calls Try.prog 29 #[.int .i64 k] w fun e w' => e = .returned (.string ⟨(nameR k).toArray⟩) ∧ Below w.heap.size w w' := by
  have e : nameR k = [] := by unfold nameR; rw [if_neg (by omega)]
  rw [e]
  clear e
  rcases hk with hk | hk
  · go_enter Try.func29, Try.ntmps29
    go_wp2
    go_ret
    exact ⟨rfl, (Below.refl _ w).alloc (Nat.le_refl _) _⟩
  · go_enter Try.func29, Try.ntmps29
    go_wp2
    go_ret
    exact ⟨rfl, (Below.refl _ w).alloc (Nat.le_refl _) _⟩
set_option maxHeartbeats 12800000 in
theorem rname_in (k : Int) (h0 : 0 ≤ k) (h1 : k ≤ 11) (w : World) :
    Calls Try.prog 29 #[.int .i64 k] w fun e w' => e = .returned (.string ⟨(nameR k).toArray⟩) ∧ Below w.heap.size w w' := by
  have : k = 0 ∨ k = 1 ∨ k = 2 ∨ k = 3 ∨ k = 4 ∨ k = 5 ∨ k = 6 ∨ k = 7 ∨ k = 8 ∨ k = 9 ∨ k = 10 ∨ k = 11 := by omega
  rcases this with h | h | h | h | h | h | h | h | h | h | h | h <;> subst h <;>
  · go_enter Try.func29, Try.ntmps29
    go_wp2
    go_ret
    exact ⟨rfl, (Below.refl _ w).alloc (Nat.le_refl _) _⟩
/-- The name of any kind. -/
theorem rname_any (k : Int) (h0 : -9223372036854775808 ≤ k) (h1 : k ≤ 9223372036854775807) (w : World) :
    Calls Try.prog 29 #[.int .i64 k] w fun e w' => e = .returned (.string ⟨(nameR k).toArray⟩) ∧ Below w.heap.size w w' := by
  by_cases h : 0 ≤ k ∧ k ≤ 11
  · exact rname_in k h.1 h.2 w
  · exact rname_out k (by omega) h0 h1 w
/-- The least and the greatest A of any kind. -/
theorem rlim_any (k : Int) (w : World) :
    Calls Try.prog 30 #[.int .i64 k] w fun e w' => e = .returned (.tuple #[.int .i64 (limR k).1, .int .i64 (limR k).2]) ∧ w' = w := by
  by_cases h1 : k = 1
  · subst h1
    go_enter Try.func30, Try.ntmps30
    go_wp2
    go_ret2
    exact ⟨rfl, rfl⟩
  · by_cases h2 : 2 ≤ k ∧ k ≤ 6
    · have e : limR k = (0, 7) := by unfold limR; rw [if_neg h1, if_pos (Or.inl h2)]
      obtain ⟨h2, h3⟩ := h2
      rw [e]
      go_enter Try.func30, Try.ntmps30
      go_wp2
      go_ret2
      exact ⟨rfl, rfl⟩
    · by_cases h9 : k = 9
      · subst h9
        go_enter Try.func30, Try.ntmps30
        go_wp2
        go_ret2
        exact ⟨rfl, rfl⟩
      · by_cases h7 : k = 7
        · subst h7
          go_enter Try.func30, Try.ntmps30
          go_wp2
          go_ret2
          exact ⟨rfl, rfl⟩
        · by_cases h10 : k = 10
          · subst h10
            go_enter Try.func30, Try.ntmps30
            go_wp2
            go_ret2
            exact ⟨rfl, rfl⟩
          · have e : limR k = (-1, -1) := by unfold limR; rw [if_neg h1, if_neg (by omega), if_neg h7, if_neg h10]
            rw [e]
            by_cases hlt : k < 2
            · go_enter Try.func30, Try.ntmps30
              go_wp2
              go_ret2
              exact ⟨rfl, rfl⟩
            · have hgt : ¬ k ≤ 6 := by omega
              have hgt2 : decide (k ≤ 6) = false := by simpa using hgt
              have hk9 : (k == 9) = false := by simpa using h9
              go_enter Try.func30, Try.ntmps30
              go_wp2
              go_ret2
              exact ⟨rfl, rfl⟩
end Go.Proofs.Ytmcfjlkjijaflaa
