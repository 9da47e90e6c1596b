/-
  The program's takes, ends, rests, there.
-/
import Derived.Test.YtmcfjlkjijaflaaCrMath
import Derived.Test.YtmcfjlkjijaflaaRcCheck
namespace Go.Proofs.Ytmcfjlkjijaflaa
open Go.RowKit

theorem ctakes_any (k a c : Int) (w : World) : Calls Try.prog 22 #[.agg #[.int .i64 k, .int .i64 a, .int .i64 c]] w fun e w' => e = .returned (.bool (takesR (k, a, c))) ∧ Below w.heap.size w w' := by
  by_cases h2 : k = 2
  · subst h2
    go_enter Try.func22, Try.ntmps22
    go_wp2
    go_ret
    exact ⟨by simp [takesR], (Below.refl _ w).alloc (Nat.le_refl _) _⟩
  · have q2 : (k == 2) = false := by simpa using h2
    by_cases h3 : k = 3
    · subst h3
      go_enter Try.func22, Try.ntmps22
      go_wp2
      go_ret
      exact ⟨by simp [takesR], (Below.refl _ w).alloc (Nat.le_refl _) _⟩
    · have q3 : (k == 3) = false := by simpa using h3
      by_cases h4 : k = 4
      · subst h4
        go_enter Try.func22, Try.ntmps22
        go_wp2
        go_ret
        exact ⟨by simp [takesR], (Below.refl _ w).alloc (Nat.le_refl _) _⟩
      · have q4 : (k == 4) = false := by simpa using h4
        by_cases h5 : k = 5
        · subst h5
          go_enter Try.func22, Try.ntmps22
          go_wp2
          go_ret
          exact ⟨by simp [takesR], (Below.refl _ w).alloc (Nat.le_refl _) _⟩
        · have q5 : (k == 5) = false := by simpa using h5
          have e : takesR (k, a, c) = false := by
            simp [takesR]
            omega
          rw [e]
          go_enter Try.func22, Try.ntmps22
          go_wp2
          go_ret
          exact ⟨rfl, (Below.refl _ w).alloc (Nat.le_refl _) _⟩
theorem crests_any (k a c : Int) (w : World) : Calls Try.prog 16 #[.agg #[.int .i64 k, .int .i64 a, .int .i64 c]] w fun e w' => e = .returned (.bool (timeR (k, a, c))) ∧ Below w.heap.size w w' := by
  by_cases h2 : k = 1
  · subst h2
    go_enter Try.func16, Try.ntmps16
    go_wp2
    go_ret
    exact ⟨by simp [timeR], (Below.refl _ w).alloc (Nat.le_refl _) _⟩
  · have q2 : (k == 1) = false := by simpa using h2
    by_cases h3 : k = 7
    · subst h3
      go_enter Try.func16, Try.ntmps16
      go_wp2
      go_ret
      exact ⟨by simp [timeR], (Below.refl _ w).alloc (Nat.le_refl _) _⟩
    · have q3 : (k == 7) = false := by simpa using h3
      by_cases h4 : k = 8
      · subst h4
        go_enter Try.func16, Try.ntmps16
        go_wp2
        go_ret
        exact ⟨by simp [timeR], (Below.refl _ w).alloc (Nat.le_refl _) _⟩
      · have q4 : (k == 8) = false := by simpa using h4
        by_cases h5 : k = 11
        · subst h5
          go_enter Try.func16, Try.ntmps16
          go_wp2
          go_ret
          exact ⟨by simp [timeR], (Below.refl _ w).alloc (Nat.le_refl _) _⟩
        · have q5 : (k == 11) = false := by simpa using h5
          have e : timeR (k, a, c) = false := by simp [timeR, h2, h3, h4, h5]
          rw [e]
          go_enter Try.func16, Try.ntmps16
          go_wp2
          go_ret
          exact ⟨rfl, (Below.refl _ w).alloc (Nat.le_refl _) _⟩
theorem cends_any (k a c lock : Int) (w : World) : Calls Try.prog 31 #[.agg #[.int .i64 k, .int .i64 a, .int .i64 c], .int .i64 lock] w fun e w' => e = .returned (.bool (endCr lock (k, a, c))) ∧ Below w.heap.size w w' := by
  by_cases h2 : k = 11
  · subst h2
    go_enter Try.func31, Try.ntmps31
    go_wp2
    go_ret
    exact ⟨by simp [endCr], (Below.refl _ w).alloc (Nat.le_refl _) _⟩
  · have q2 : (k == 11) = false := by simpa using h2
    by_cases h3 : k = 6
    · subst h3
      by_cases h4 : a = lock
      · subst h4
        go_enter Try.func31, Try.ntmps31
        go_wp2
        go_ret
        exact ⟨by simp [endCr], (Below.refl _ w).alloc (Nat.le_refl _) _⟩
      · have q4 : (a == lock) = false := by simpa using h4
        have e : endCr lock (6, a, c) = false := by simp [endCr, h4]
        rw [e]
        go_enter Try.func31, Try.ntmps31
        go_wp2
        go_ret
        exact ⟨rfl, (Below.refl _ w).alloc (Nat.le_refl _) _⟩
    · have q3 : (k == 6) = false := by simpa using h3
      have e : endCr lock (k, a, c) = false := by simp [endCr, h2, h3]
      rw [e]
      go_enter Try.func31, Try.ntmps31
      go_wp2
      go_ret
      exact ⟨rfl, (Below.refl _ w).alloc (Nat.le_refl _) _⟩
set_option maxHeartbeats 800000 in
theorem there_any (k a c progs : Int) (n : Nat) (w : World) : Calls Try.prog 26 #[.agg #[.int .i64 k, .int .i64 a, .int .i64 c], .int .i64 n, .int .i64 progs] w fun e w' => e = .returned (.bool (!met4 n progs (k, a, c))) ∧ Below w.heap.size w w' := by
  by_cases h9 : k = 9
  · subst h9
    by_cases hp : a < progs
    · have e : (!met4 n progs (9, a, c)) = true := by simp [met4, takesR, hp]
      rw [e]
      go_enter Try.func26, Try.ntmps26
      go_wp2
      go_ret
      exact ⟨by simp, (Below.refl _ w).alloc (Nat.le_refl _) _⟩
    · have e : (!met4 n progs (9, a, c)) = false := by simp [met4]; omega
      rw [e]
      go_enter Try.func26, Try.ntmps26
      go_wp2
      go_ret
      exact ⟨by simp, (Below.refl _ w).alloc (Nat.le_refl _) _⟩
  · have q9 : (k == 9) = false := by simpa using h9
    have hx := heap_alloc_new w (.cells #[.int .i64 k, .int .i64 a, .int .i64 c] 38)
    have HT := Lib.hid (fun V => ctakes_any k a c V)
    have HB0 := Lib.hid ((Below.refl _ w).alloc (Nat.le_refl _) (.cells #[.int .i64 k, .int .i64 a, .int .i64 c] 38))
    have HX := Lib.hid hx
    clear hx
    by_cases ht : takesR (k, a, c) = true
    · have e : (!met4 n progs (k, a, c)) = decide (a < n) := by
        simp [met4, ht, h9]
        by_cases h : a < n
        · rw [decide_eq_true h, decide_eq_false (by omega)]; rfl
        · rw [decide_eq_false h, decide_eq_true (by omega)]; rfl
      rw [e]
      simp only [ht] at HT
      clear e ht
      go_enter Try.func26, Try.ntmps26
      go_wp2_with fail
      with_reducible refine (HT.out _).mono ?_
      rintro e w1 ⟨rfl, hb⟩
      obtain ⟨z0, z1, z2⟩ := op_cells ((hb.block _ (lt_of_block HX.out)).trans HX.out)
      have HB := Lib.hid (HB0.out.trans (hb.mono HB0.out.size))
      clear hb
      go_wp2
      go_ret
      exact ⟨rfl, HB.out⟩
    · have ht2 : takesR (k, a, c) = false := by simpa using ht
      simp only [ht2] at HT
      by_cases h6 : k = 6
      · subst h6
        have e : (!met4 n progs (6, a, c)) = decide (a < n) := by
          simp [met4]
          by_cases h : a < n
          · rw [decide_eq_true h, decide_eq_false (by omega)]; rfl
          · rw [decide_eq_false h, decide_eq_true (by omega)]; rfl
        rw [e]
        clear e ht ht2
        go_enter Try.func26, Try.ntmps26
        go_wp2_with fail
        with_reducible refine (HT.out _).mono ?_
        rintro e w1 ⟨rfl, hb⟩
        obtain ⟨z0, z1, z2⟩ := op_cells ((hb.block _ (lt_of_block HX.out)).trans HX.out)
        have HB := Lib.hid (HB0.out.trans (hb.mono HB0.out.size))
        clear hb
        go_wp2
        go_ret
        exact ⟨rfl, HB.out⟩
      · have q6 : (k == 6) = false := by simpa using h6
        have e : (!met4 n progs (k, a, c)) = true := by simp [met4, ht2, h6, h9]
        rw [e]
        clear e ht ht2
        go_enter Try.func26, Try.ntmps26
        go_wp2_with fail
        with_reducible refine (HT.out _).mono ?_
        rintro e w1 ⟨rfl, hb⟩
        obtain ⟨z0, z1, z2⟩ := op_cells ((hb.block _ (lt_of_block HX.out)).trans HX.out)
        have HB := Lib.hid (HB0.out.trans (hb.mono HB0.out.size))
        clear hb
        go_wp2
        go_ret
        exact ⟨rfl, HB.out⟩
end Go.Proofs.Ytmcfjlkjijaflaa
