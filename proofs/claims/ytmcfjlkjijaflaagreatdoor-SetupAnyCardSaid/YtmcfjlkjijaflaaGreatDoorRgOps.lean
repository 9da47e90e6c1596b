/-
  The document's is, Name, Limits, One.
-/
import Derived.Test.YtmcfjlkjijaflaaGreatDoorGAD
namespace Go.Proofs.YtmcfjlkjijaflaaGreatDoor
open Go.RowKit

/-- Is that word at a place? -/
theorem is_any (ao : Option Addr) (b off cap : Nat) (L : List Wd) (a : Nat) (k : Int) (s : ByteArray) (w : World) (h : WArg w ao b off L) (hl : L.length ≤ 100000) :
    Calls Tryz.prog 86 #[.slice ao L.length cap, .int .i64 a, .int .i64 k, .string s] w fun e w' => e = .returned (.bool (isR L a k s.data.toList)) ∧ w' = w := by
  have HA := Lib.hid h
  obtain ⟨n, hn⟩ : ∃ n, L.length = n := ⟨_, rfl⟩
  have HN := Lib.hid hn
  rw [hn] at hl ⊢
  clear h hn
  by_cases hlt : a < n
  · have hlt' : a < L.length := by rw [HN.out]; exact hlt
    obtain ⟨rfl, hb⟩ := HA.out.at_ (by omega)
    obtain ⟨x0, x1, x2, x3⟩ := HA.out.cells a hlt'
    have e : isR L a k s.data.toList = (decide (L[a].1 = k) && decide (L[a].2.1 = s.data.toList)) := by
      unfold isR; rw [List.getElem?_eq_getElem hlt']
    rw [e]
    obtain ⟨⟨k1, t1, m, p⟩, hx⟩ : ∃ x, L[a] = x := ⟨_, rfl⟩
    rw [hx] at x0 x1 ⊢
    simp only at x0 x1 ⊢
    clear x2 x3 e
    by_cases hk : k1 = k
    · subst hk
      by_cases ht : t1 = s.data.toList
      · have ht2 : (⟨t1.toArray⟩ : ByteArray) = s := by rw [ht]
        rw [ht2] at x1
        go_enter Tryz.func86, Tryz.ntmps86
        go_wp2
        go_ret
        simp [ht]
      · go_enter Tryz.func86, Tryz.ntmps86
        go_wp2
        go_ret
        simp [ht, Lib.toList_data]
    · go_enter Tryz.func86, Tryz.ntmps86
      go_wp2
      go_ret
      simp [hk]
  · have e : isR L a k s.data.toList = false := by
      unfold isR; rw [List.getElem?_eq_none (by rw [HN.out]; omega)]
    rw [e]
    go_enter Tryz.func86, Tryz.ntmps86
    go_wp2
    go_ret
    exact ⟨rfl, rfl⟩
theorem rname_out (k : Int) (hk : k < 0 ∨ 11 < k) (h0 : -9223372036854775808 ≤ k) (h1 : k ≤ 9223372036854775807) (w : World) :
    Calls Tryz.prog 80 #[.int .i64 k] w fun e w' => e = .returned (.string ⟨(nameR k).toArray⟩) ∧ Below w.heap.size w w' := by
  have e : nameR k = [] := by unfold nameR; rw [if_neg (by omega)]
  rw [e]
  clear e
  rcases hk with hk | hk
  · go_enter Tryz.func80, Tryz.ntmps80
    go_wp2
    go_ret
    exact ⟨rfl, (Below.refl _ w).alloc (Nat.le_refl _) _⟩
  · go_enter Tryz.func80, Tryz.ntmps80
    go_wp2
    go_ret
    exact ⟨rfl, (Below.refl _ w).alloc (Nat.le_refl _) _⟩
set_option maxHeartbeats 12800000 in
theorem rname_in (k : Int) (h0 : 0 ≤ k) (h1 : k ≤ 11) (w : World) :
    Calls Tryz.prog 80 #[.int .i64 k] w fun e w' => e = .returned (.string ⟨(nameR k).toArray⟩) ∧ Below w.heap.size w w' := by
  have : k = 0 ∨ k = 1 ∨ k = 2 ∨ k = 3 ∨ k = 4 ∨ k = 5 ∨ k = 6 ∨ k = 7 ∨ k = 8 ∨ k = 9 ∨ k = 10 ∨ k = 11 := by omega
  rcases this with h | h | h | h | h | h | h | h | h | h | h | h <;> subst h <;>
  · go_enter Tryz.func80, Tryz.ntmps80
    go_wp2
    go_ret
    exact ⟨rfl, (Below.refl _ w).alloc (Nat.le_refl _) _⟩
/-- The name of any kind. -/
theorem rname_any (k : Int) (h0 : -9223372036854775808 ≤ k) (h1 : k ≤ 9223372036854775807) (w : World) :
    Calls Tryz.prog 80 #[.int .i64 k] w fun e w' => e = .returned (.string ⟨(nameR k).toArray⟩) ∧ Below w.heap.size w w' := by
  by_cases h : 0 ≤ k ∧ k ≤ 11
  · exact rname_in k h.1 h.2 w
  · exact rname_out k (by omega) h0 h1 w
/-- The least and the greatest A of any kind. -/
theorem rlim_any (k : Int) (w : World) :
    Calls Tryz.prog 81 #[.int .i64 k] w fun e w' => e = .returned (.tuple #[.int .i64 (limR k).1, .int .i64 (limR k).2]) ∧ w' = w := by
  by_cases h1 : k = 1
  · subst h1
    go_enter Tryz.func81, Tryz.ntmps81
    go_wp2
    go_ret2
    exact ⟨rfl, rfl⟩
  · by_cases h2 : 2 ≤ k ∧ k ≤ 6
    · have e : limR k = (0, 7) := by unfold limR; rw [if_neg h1, if_pos (Or.inl h2)]
      obtain ⟨h2, h3⟩ := h2
      rw [e]
      go_enter Tryz.func81, Tryz.ntmps81
      go_wp2
      go_ret2
      exact ⟨rfl, rfl⟩
    · by_cases h9 : k = 9
      · subst h9
        go_enter Tryz.func81, Tryz.ntmps81
        go_wp2
        go_ret2
        exact ⟨rfl, rfl⟩
      · by_cases h7 : k = 7
        · subst h7
          go_enter Tryz.func81, Tryz.ntmps81
          go_wp2
          go_ret2
          exact ⟨rfl, rfl⟩
        · by_cases h10 : k = 10
          · subst h10
            go_enter Tryz.func81, Tryz.ntmps81
            go_wp2
            go_ret2
            exact ⟨rfl, rfl⟩
          · have e : limR k = (-1, -1) := by unfold limR; rw [if_neg h1, if_neg (by omega), if_neg h7, if_neg h10]
            rw [e]
            by_cases hlt : k < 2
            · go_enter Tryz.func81, Tryz.ntmps81
              go_wp2
              go_ret2
              exact ⟨rfl, rfl⟩
            · have hgt : ¬ k ≤ 6 := by omega
              have hgt2 : decide (k ≤ 6) = false := by simpa using hgt
              have hk9 : (k == 9) = false := by simpa using h9
              go_enter Tryz.func81, Tryz.ntmps81
              go_wp2
              go_ret2
              exact ⟨rfl, rfl⟩
end Go.Proofs.YtmcfjlkjijaflaaGreatDoor
