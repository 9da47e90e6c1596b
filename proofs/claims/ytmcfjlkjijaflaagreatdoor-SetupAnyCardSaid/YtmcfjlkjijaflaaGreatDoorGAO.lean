/-
  The program's takes, ends, rests, there.
  slices.ContainsFunc over ops, with the program's rests.
-/
import Derived.Test.YtmcfjlkjijaflaaGreatDoorGAB
import Derived.Test.YtmcfjlkjijaflaaGreatDoorGBE

/- The program's takes, ends, rests, there. -/
namespace Go.Proofs.YtmcfjlkjijaflaaGreatDoor
open Go.RowKit

theorem ctakes_any (k a c : Int) (w : World) : Calls Tryz.prog 115 #[.agg #[.int .i64 k, .int .i64 a, .int .i64 c]] w fun e w' => e = .returned (.bool (takesR (k, a, c))) ∧ Below w.heap.size w w' := by
  by_cases h2 : k = 2
  · subst h2
    go_enter Tryz.func115, Tryz.ntmps115
    go_wp2
    go_ret
    exact ⟨by simp [takesR], (Below.refl _ w).alloc (Nat.le_refl _) _⟩
  · have q2 : (k == 2) = false := by simpa using h2
    by_cases h3 : k = 3
    · subst h3
      go_enter Tryz.func115, Tryz.ntmps115
      go_wp2
      go_ret
      exact ⟨by simp [takesR], (Below.refl _ w).alloc (Nat.le_refl _) _⟩
    · have q3 : (k == 3) = false := by simpa using h3
      by_cases h4 : k = 4
      · subst h4
        go_enter Tryz.func115, Tryz.ntmps115
        go_wp2
        go_ret
        exact ⟨by simp [takesR], (Below.refl _ w).alloc (Nat.le_refl _) _⟩
      · have q4 : (k == 4) = false := by simpa using h4
        by_cases h5 : k = 5
        · subst h5
          go_enter Tryz.func115, Tryz.ntmps115
          go_wp2
          go_ret
          exact ⟨by simp [takesR], (Below.refl _ w).alloc (Nat.le_refl _) _⟩
        · have q5 : (k == 5) = false := by simpa using h5
          have e : takesR (k, a, c) = false := by
            simp [takesR]
            omega
          rw [e]
          go_enter Tryz.func115, Tryz.ntmps115
          go_wp2
          go_ret
          exact ⟨rfl, (Below.refl _ w).alloc (Nat.le_refl _) _⟩
theorem crests_any (k a c : Int) (w : World) : Calls Tryz.prog 102 #[.agg #[.int .i64 k, .int .i64 a, .int .i64 c]] w fun e w' => e = .returned (.bool (timeR (k, a, c))) ∧ Below w.heap.size w w' := by
  by_cases h2 : k = 1
  · subst h2
    go_enter Tryz.func102, Tryz.ntmps102
    go_wp2
    go_ret
    exact ⟨by simp [timeR], (Below.refl _ w).alloc (Nat.le_refl _) _⟩
  · have q2 : (k == 1) = false := by simpa using h2
    by_cases h3 : k = 7
    · subst h3
      go_enter Tryz.func102, Tryz.ntmps102
      go_wp2
      go_ret
      exact ⟨by simp [timeR], (Below.refl _ w).alloc (Nat.le_refl _) _⟩
    · have q3 : (k == 7) = false := by simpa using h3
      by_cases h4 : k = 8
      · subst h4
        go_enter Tryz.func102, Tryz.ntmps102
        go_wp2
        go_ret
        exact ⟨by simp [timeR], (Below.refl _ w).alloc (Nat.le_refl _) _⟩
      · have q4 : (k == 8) = false := by simpa using h4
        by_cases h5 : k = 11
        · subst h5
          go_enter Tryz.func102, Tryz.ntmps102
          go_wp2
          go_ret
          exact ⟨by simp [timeR], (Below.refl _ w).alloc (Nat.le_refl _) _⟩
        · have q5 : (k == 11) = false := by simpa using h5
          have e : timeR (k, a, c) = false := by simp [timeR, h2, h3, h4, h5]
          rw [e]
          go_enter Tryz.func102, Tryz.ntmps102
          go_wp2
          go_ret
          exact ⟨rfl, (Below.refl _ w).alloc (Nat.le_refl _) _⟩
theorem cends_any (k a c lock : Int) (w : World) : Calls Tryz.prog 132 #[.agg #[.int .i64 k, .int .i64 a, .int .i64 c], .int .i64 lock] w fun e w' => e = .returned (.bool (endCr lock (k, a, c))) ∧ Below w.heap.size w w' := by
  by_cases h2 : k = 11
  · subst h2
    go_enter Tryz.func132, Tryz.ntmps132
    go_wp2
    go_ret
    exact ⟨by simp [endCr], (Below.refl _ w).alloc (Nat.le_refl _) _⟩
  · have q2 : (k == 11) = false := by simpa using h2
    by_cases h3 : k = 6
    · subst h3
      by_cases h4 : a = lock
      · subst h4
        go_enter Tryz.func132, Tryz.ntmps132
        go_wp2
        go_ret
        exact ⟨by simp [endCr], (Below.refl _ w).alloc (Nat.le_refl _) _⟩
      · have q4 : (a == lock) = false := by simpa using h4
        have e : endCr lock (6, a, c) = false := by simp [endCr, h4]
        rw [e]
        go_enter Tryz.func132, Tryz.ntmps132
        go_wp2
        go_ret
        exact ⟨rfl, (Below.refl _ w).alloc (Nat.le_refl _) _⟩
    · have q3 : (k == 6) = false := by simpa using h3
      have e : endCr lock (k, a, c) = false := by simp [endCr, h2, h3]
      rw [e]
      go_enter Tryz.func132, Tryz.ntmps132
      go_wp2
      go_ret
      exact ⟨rfl, (Below.refl _ w).alloc (Nat.le_refl _) _⟩
set_option maxHeartbeats 800000 in
theorem there_any (k a c progs : Int) (n : Nat) (w : World) : Calls Tryz.prog 114 #[.agg #[.int .i64 k, .int .i64 a, .int .i64 c], .int .i64 n, .int .i64 progs] w fun e w' => e = .returned (.bool (!met4 n progs (k, a, c))) ∧ Below w.heap.size w w' := by
  by_cases h9 : k = 9
  · subst h9
    by_cases hp : a < progs
    · have e : (!met4 n progs (9, a, c)) = true := by simp [met4, takesR, hp]
      rw [e]
      go_enter Tryz.func114, Tryz.ntmps114
      go_wp2
      go_ret
      exact ⟨by simp, (Below.refl _ w).alloc (Nat.le_refl _) _⟩
    · have e : (!met4 n progs (9, a, c)) = false := by simp [met4]; omega
      rw [e]
      go_enter Tryz.func114, Tryz.ntmps114
      go_wp2
      go_ret
      exact ⟨by simp, (Below.refl _ w).alloc (Nat.le_refl _) _⟩
  · have q9 : (k == 9) = false := by simpa using h9
    have hx := heap_alloc_new w (.cells #[.int .i64 k, .int .i64 a, .int .i64 c] 109)
    have HT := Lib.hid (fun V => ctakes_any k a c V)
    have HB0 := Lib.hid ((Below.refl _ w).alloc (Nat.le_refl _) (.cells #[.int .i64 k, .int .i64 a, .int .i64 c] 109))
    have HX := Lib.hid hx
    clear hx
    by_cases ht : takesR (k, a, c) = true
    · have e : (!met4 n progs (k, a, c)) = decide (a < n) := by
        simp [met4, ht, h9]
        by_cases h : a < n
        · rw [decide_eq_true h, decide_eq_false (by omega)]; rfl
        · rw [decide_eq_false h, decide_eq_true (by omega)]; rfl
      rw [e]
      simp only [ht] at HT
      clear e ht
      go_enter Tryz.func114, Tryz.ntmps114
      go_wp2_with fail
      with_reducible refine (HT.out _).mono ?_
      rintro e w1 ⟨rfl, hb⟩
      obtain ⟨z0, z1, z2⟩ := op_cells ((hb.block _ (lt_of_block HX.out)).trans HX.out)
      have HB := Lib.hid (HB0.out.trans (hb.mono HB0.out.size))
      clear hb
      go_wp2
      go_ret
      exact ⟨rfl, HB.out⟩
    · have ht2 : takesR (k, a, c) = false := by simpa using ht
      simp only [ht2] at HT
      by_cases h6 : k = 6
      · subst h6
        have e : (!met4 n progs (6, a, c)) = decide (a < n) := by
          simp [met4]
          by_cases h : a < n
          · rw [decide_eq_true h, decide_eq_false (by omega)]; rfl
          · rw [decide_eq_false h, decide_eq_true (by omega)]; rfl
        rw [e]
        clear e ht ht2
        go_enter Tryz.func114, Tryz.ntmps114
        go_wp2_with fail
        with_reducible refine (HT.out _).mono ?_
        rintro e w1 ⟨rfl, hb⟩
        obtain ⟨z0, z1, z2⟩ := op_cells ((hb.block _ (lt_of_block HX.out)).trans HX.out)
        have HB := Lib.hid (HB0.out.trans (hb.mono HB0.out.size))
        clear hb
        go_wp2
        go_ret
        exact ⟨rfl, HB.out⟩
      · have q6 : (k == 6) = false := by simpa using h6
        have e : (!met4 n progs (k, a, c)) = true := by simp [met4, ht2, h6, h9]
        rw [e]
        clear e ht ht2
        go_enter Tryz.func114, Tryz.ntmps114
        go_wp2_with fail
        with_reducible refine (HT.out _).mono ?_
        rintro e w1 ⟨rfl, hb⟩
        obtain ⟨z0, z1, z2⟩ := op_cells ((hb.block _ (lt_of_block HX.out)).trans HX.out)
        have HB := Lib.hid (HB0.out.trans (hb.mono HB0.out.size))
        clear hb
        go_wp2
        go_ret
        exact ⟨rfl, HB.out⟩
end Go.Proofs.YtmcfjlkjijaflaaGreatDoor

/- slices.ContainsFunc over ops, with the program's rests. -/
namespace Go.Proofs.YtmcfjlkjijaflaaGreatDoor
open Go.RowKit

abbrev restV : Value := .func (.func 102) #[] #[]
set_option maxRecDepth 100000 in
set_option maxHeartbeats 1600000 in
theorem indexrest_any (ao : Option Addr) (b off cap : Nat) (L : List Opn) (w : World) (h : OArg w ao b off L) (hm : L.length ≤ 100000) :
    Calls Tryz.prog 117 #[.slice ao L.length cap, restV] w fun e w' => (∃ r : Int, e = .returned (.int .i64 r) ∧ decide (0 ≤ r) = L.any timeR) ∧ Below w.heap.size w w' := by
  have HA := Lib.hid h
  have HR := Lib.hid (fun k a c V => crests_any k a c V)
  obtain ⟨n, hn⟩ : ∃ n, L.length = n := ⟨_, rfl⟩
  have HN := Lib.hid hn
  rw [hn] at hm ⊢
  clear h hn
  go_enter Tryz.func117, Tryz.ntmps117
  go_wp2
  go_loopw [8] (fun s wr => ∃ i : Nat, s = .int .i64 (i : Nat) ∧ i ≤ n ∧ Hid (Below w.heap.size w wr) ∧ Hid (∀ j (hj : j < L.length), j < i → timeR L[j] = false)) (fun s _ => n - (intOf s).toNat)
  case atStart => exact ⟨0, rfl, Nat.zero_le _, Below.refl _ w, fun j _ hj => absurd hj (Nat.not_lt_zero _)⟩
  case round =>
    obtain ⟨i, rfl, hi, HB, HO⟩ := hrel
    by_cases hlt : i < n
    · have hiL : i < L.length := by rw [HN.out]; exact hlt
      have hA := HA.out.below HB.out
      obtain ⟨rfl, hbl⟩ := hA.at_ (by omega)
      obtain ⟨x0, x1, x2⟩ := hA.cells i hiL
      obtain ⟨⟨k, a, c⟩, hx⟩ : ∃ x, L[i] = x := ⟨_, rfl⟩
      rw [hx] at x0 x1 x2
      simp only at x0 x1 x2
      have HX := Lib.hid hx
      have i0 : (0 : Int) ≤ i := by omega
      have i1 : (i : Int) < n := by omega
      have i2 : IntKind.i64.wrap ((i : Int) + 1) = (i : Int) + 1 := by rw [IntKind.wrap_i64]; omega
      have HRK := Lib.hid (fun V => HR.out k a c V)
      obtain ⟨q, hq⟩ : ∃ q, timeR (k, a, c) = q := ⟨_, rfl⟩
      have HQ := Lib.hid hq
      rw [hq] at HRK
      clear hx hq hA
      cases q with
      | true =>
        have HE : Hid (L.any timeR = true) := Lib.hid (by
          rw [List.any_eq_true]
          exact ⟨_, List.getElem_mem hiL, by rw [HX.out]; exact HQ.out⟩)
        go_wp2_with fail
        with_reducible refine (HRK.out _).mono ?_
        rintro e w1 ⟨rfl, hb⟩
        have HB1 := Lib.hid (HB.out.trans (hb.mono HB.out.size))
        clear hb
        go_wp2
        go_ret
        exact ⟨⟨_, rfl, by rw [HE.out]; exact decide_eq_true i0⟩, HB1.out⟩
      | false =>
        have HO2 : Hid (∀ j (hj : j < L.length), j < i + 1 → timeR L[j] = false) := Lib.hid (fun j hj hji => by
          rcases Nat.lt_or_ge j i with h | h
          · exact HO.out j hj h
          · obtain rfl : j = i := by omega
            rw [HX.out]
            exact HQ.out)
        go_wp2_with fail
        with_reducible refine (HRK.out _).mono ?_
        rintro e w1 ⟨rfl, hb⟩
        have HB1 := Lib.hid (HB.out.trans (hb.mono HB.out.size))
        clear hb
        go_wp2
        go_roundw
        case rel => exact ⟨i + 1, by go_num, by omega, HB1, HO2⟩
        case measure => simp [intOf]; omega
    · have HE : Hid (L.any timeR = false) := Lib.hid (by
        rw [List.any_eq_false]
        intro o ho
        obtain ⟨j, hj, rfl⟩ := List.getElem_of_mem ho
        rw [HO.out j hj (by have := HN.out; omega)]
        decide)
      go_wp2
      go_ret
      exact ⟨⟨_, rfl, by rw [HE.out]; rfl⟩, HB.out⟩
set_option maxRecDepth 100000 in
theorem containsrest_any (ao : Option Addr) (b off cap : Nat) (L : List Opn) (w : World) (h : OArg w ao b off L) (hm : L.length ≤ 100000) :
    Calls Tryz.prog 101 #[.slice ao L.length cap, restV] w fun e w' => e = .returned (.bool (L.any timeR)) ∧ Below w.heap.size w w' := by
  have HI := Lib.hid (indexrest_any ao b off cap L w h hm)
  obtain ⟨n, hn⟩ : ∃ n, L.length = n := ⟨_, rfl⟩
  obtain ⟨q, hq⟩ : ∃ q, L.any timeR = q := ⟨_, rfl⟩
  rw [hn, hq] at HI
  rw [hn, hq]
  clear h hn hq hm
  go_enter Tryz.func101, Tryz.ntmps101
  go_wp2_with fail
  with_reducible refine HI.out.mono ?_
  rintro e w1 ⟨⟨r, rfl, hr⟩, hb⟩
  have HR := Lib.hid hr
  have HB := Lib.hid hb
  clear hr hb
  go_wp2
  go_ret
  exact ⟨by rw [← HR.out]; rfl, HB.out⟩
end Go.Proofs.YtmcfjlkjijaflaaGreatDoor
