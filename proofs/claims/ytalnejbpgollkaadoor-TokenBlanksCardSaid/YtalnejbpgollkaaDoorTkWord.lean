/-
  The program's words: isName, isNum, isMark.
-/
import Derived.Test.YtalnejbpgollkaaDoorTkRun
import Derived.Test.YtalnejbpgollkaaDoorTkCutM
namespace Go.Proofs.YtalnejbpgollkaaDoor
open Go.RowKit

set_option maxHeartbeats 400000 in
theorem isName_any (s : ByteArray) (w : World) (hs : s.size ≤ maxLen) : Calls Tryd.prog 15 #[.string s] w fun e w' => e = .returned (.bool (nameB s.data.toList)) ∧ w' = w := by
  have HR := Lib.hid (run_let s w hs)
  have HS := Lib.hid (Lib.size_eq s)
  unfold nameB
  by_cases h1 : 1 ≤ s.size
  · by_cases h2 : s.size ≤ 12
    · rw [← HS.out, decide_eq_true h1, decide_eq_true h2]
      obtain ⟨n, hn⟩ : ∃ n, (s.data.toList.takeWhile isLet).length = n := ⟨_, rfl⟩
      rw [hn] at HR ⊢
      clear hn
      cases h3 : decide (n = s.size)
      all_goals
        have h4 : ((n : Int) == (s.size : Int)) = decide (n = s.size) := by rw [Bool.eq_iff_iff]; simp; omega
        rw [h3] at h4
        clear h3
        go_enter Tryd.func15, Tryd.ntmps15
        go_wp2_with fail
        with_reducible refine HR.out.mono ?_
        rintro e w1 ⟨rfl, rfl⟩
        go_wp2
        go_ret
        exact ⟨rfl, rfl⟩
    · rw [← HS.out, decide_eq_true h1, decide_eq_false h2]
      go_enter Tryd.func15, Tryd.ntmps15
      go_wp2
      go_ret
      exact ⟨rfl, rfl⟩
  · rw [← HS.out, decide_eq_false h1]
    go_enter Tryd.func15, Tryd.ntmps15
    go_wp2
    go_ret
    exact ⟨rfl, rfl⟩

theorem head_at (s : ByteArray) (h : 0 < s.size) : s.data.toList.headD 0 = s[0] := by
  have := byte_drop s 0 h
  rw [List.drop_zero] at this
  rw [this]
  rfl

set_option maxHeartbeats 400000 in
theorem isNum_any (s : ByteArray) (w : World) : Calls Tryd.prog 33 #[.string s] w fun e w' => e = .returned (.bool (numB s.data.toList)) ∧ w' = w := by
  have HS := Lib.hid (Lib.size_eq s)
  unfold numB
  rw [← HS.out]
  by_cases h1 : s.size = 1
  · rw [decide_eq_true h1]
    have d1 : ((s.size : Int) == 1) = true := by simp [h1]
    clear h1
    go_enter Tryd.func33, Tryd.ntmps33
    go_wp2
    go_ret
    exact ⟨rfl, rfl⟩
  · rw [decide_eq_false h1]
    have d1 : ((s.size : Int) == 1) = false := by simp; omega
    by_cases h2 : 1 < s.size
    · by_cases h3 : s.size ≤ 9
      · rw [decide_eq_true h2, decide_eq_true h3, head_at s (by omega)]
        obtain ⟨c, hc⟩ : ∃ c, s[0] = c := ⟨_, rfl⟩
        rw [hc, ← (show ((c.toNat : Int) != 48) = !decide (c.toNat = 48) from neb c 48)]
        have hlt : 0 < s.size := by omega
        go_enter Tryd.func33, Tryd.ntmps33
        go_wp2
        go_ret
        exact ⟨rfl, rfl⟩
      · rw [decide_eq_true h2, decide_eq_false h3]
        go_enter Tryd.func33, Tryd.ntmps33
        go_wp2
        go_ret
        exact ⟨rfl, rfl⟩
    · rw [decide_eq_false h2]
      go_enter Tryd.func33, Tryd.ntmps33
      go_wp2
      go_ret
      exact ⟨rfl, rfl⟩

set_option maxHeartbeats 400000 in
theorem isMark_any (s : ByteArray) (w : World) : Calls Tryd.prog 18 #[.string s] w fun e w' => e = .returned (.bool (markB s.data.toList)) ∧ w' = w := by
  unfold markB
  rw [← Lib.toList_data]
  cases h1 : (s.toList == [123]) <;> cases h2 : (s.toList == [125]) <;> cases h3 : (s.toList == [59]) <;> cases h4 : (s.toList == [46]) <;> cases h5 : (s.toList == [61])
  all_goals
    go_enter Tryd.func18, Tryd.ntmps18
    go_wp2
    go_ret
    exact ⟨rfl, rfl⟩
end Go.Proofs.YtalnejbpgollkaaDoor
