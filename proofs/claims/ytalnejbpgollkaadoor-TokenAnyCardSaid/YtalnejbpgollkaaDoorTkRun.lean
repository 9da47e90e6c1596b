/-
  How many bytes at the beginning of a text are of a kind (run); text in memory of its own (own).
-/
import Derived.Test.YtalnejbpgollkaaDoorTkByte
import Derived.Lib.Strings
import Derived.Lib.ConvBytes
import Derived.Laws.IdiomStrings
import Derived.LoopTactic
namespace Go.Proofs.YtalnejbpgollkaaDoor
open Go.RowKit

theorem byte_drop (s : ByteArray) (k : Nat) (h : k < s.size) : s.data.toList.drop k = s[k] :: s.data.toList.drop (k + 1) := by
  rw [List.drop_eq_getElem_cons (by rw [← Lib.size_eq]; exact h)]
  rfl
theorem drop_end (s : ByteArray) (k : Nat) (h : s.size ≤ k) : s.data.toList.drop k = [] := List.drop_eq_nil_of_le (by rw [← Lib.size_eq]; exact h)

set_option maxHeartbeats 400000 in
theorem run_let (s : ByteArray) (w : World) (hs : s.size ≤ maxLen) :
    Calls Tryd.prog 24 #[.string s, .func (.func 25) #[] #[]] w fun e w' => e = .returned (.int .i64 (s.data.toList.takeWhile isLet).length) ∧ w' = w := by
  unfold maxLen at hs
  have HF := Lib.hid (plet_any)
  go_enter Tryd.func24, Tryd.ntmps24
  go_wp2
  go_loop [5] (fun n => ∃ k : Nat, k ≤ s.size ∧ n = .int .i64 k ∧ Hid ((s.data.toList.takeWhile isLet).length = k + ((s.data.toList.drop k).takeWhile isLet).length)) (fun n => s.size - (intOf n).toNat)
  case atStart => exact ⟨0, Nat.zero_le _, rfl, by unfold Hid; simp⟩
  case round =>
    obtain ⟨k, hk, rfl, HK⟩ := hrel
    by_cases hlt : k < s.size
    · have HD := Lib.hid (byte_drop s k hlt)
      have HQ := Lib.hid (HF.out (s[k]) w)
      obtain ⟨c, hc⟩ : ∃ c, s[k] = c := ⟨_, rfl⟩
      rw [hc] at HD HQ
      cases hq : isLet c with
      | true =>
        rw [hq] at HQ
        have HE := Lib.hid hq
        clear hq
        go_wp2_with fail
        with_reducible refine HQ.out.mono ?_
        rintro e w1 ⟨rfl, rfl⟩
        go_wp2
        go_round
        case rel => exact ⟨k + 1, by omega, by go_num, by
          have h := HK.out
          rw [HD.out, List.takeWhile_cons, if_pos HE.out, List.length_cons] at h
          unfold Hid
          omega⟩
        case measure => simp [intOf]; omega
      | false =>
        rw [hq] at HQ
        have HE := Lib.hid hq
        clear hq
        go_wp2_with fail
        with_reducible refine HQ.out.mono ?_
        rintro e w1 ⟨rfl, rfl⟩
        go_wp2
        go_ret
        have h := HK.out
        rw [HD.out, List.takeWhile_cons, if_neg (by rw [HE.out]; decide)] at h
        exact ⟨by rw [h]; rfl, rfl⟩
    · go_wp2
      go_ret
      have h := HK.out
      rw [drop_end s k (by omega)] at h
      exact ⟨by rw [h]; rfl, rfl⟩

set_option maxHeartbeats 400000 in
theorem run_dig (s : ByteArray) (w : World) (hs : s.size ≤ maxLen) :
    Calls Tryd.prog 24 #[.string s, .func (.func 32) #[] #[]] w fun e w' => e = .returned (.int .i64 (s.data.toList.takeWhile isDig).length) ∧ w' = w := by
  unfold maxLen at hs
  have HF := Lib.hid (pdig_any)
  go_enter Tryd.func24, Tryd.ntmps24
  go_wp2
  go_loop [5] (fun n => ∃ k : Nat, k ≤ s.size ∧ n = .int .i64 k ∧ Hid ((s.data.toList.takeWhile isDig).length = k + ((s.data.toList.drop k).takeWhile isDig).length)) (fun n => s.size - (intOf n).toNat)
  case atStart => exact ⟨0, Nat.zero_le _, rfl, by unfold Hid; simp⟩
  case round =>
    obtain ⟨k, hk, rfl, HK⟩ := hrel
    by_cases hlt : k < s.size
    · have HD := Lib.hid (byte_drop s k hlt)
      have HQ := Lib.hid (HF.out (s[k]) w)
      obtain ⟨c, hc⟩ : ∃ c, s[k] = c := ⟨_, rfl⟩
      rw [hc] at HD HQ
      cases hq : isDig c with
      | true =>
        rw [hq] at HQ
        have HE := Lib.hid hq
        clear hq
        go_wp2_with fail
        with_reducible refine HQ.out.mono ?_
        rintro e w1 ⟨rfl, rfl⟩
        go_wp2
        go_round
        case rel => exact ⟨k + 1, by omega, by go_num, by
          have h := HK.out
          rw [HD.out, List.takeWhile_cons, if_pos HE.out, List.length_cons] at h
          unfold Hid
          omega⟩
        case measure => simp [intOf]; omega
      | false =>
        rw [hq] at HQ
        have HE := Lib.hid hq
        clear hq
        go_wp2_with fail
        with_reducible refine HQ.out.mono ?_
        rintro e w1 ⟨rfl, rfl⟩
        go_wp2
        go_ret
        have h := HK.out
        rw [HD.out, List.takeWhile_cons, if_neg (by rw [HE.out]; decide)] at h
        exact ⟨by rw [h]; rfl, rfl⟩
    · go_wp2
      go_ret
      have h := HK.out
      rw [drop_end s k (by omega)] at h
      exact ⟨by rw [h]; rfl, rfl⟩

set_option maxHeartbeats 400000 in
theorem run_rem (s : ByteArray) (w : World) (hs : s.size ≤ maxLen) :
    Calls Tryd.prog 24 #[.string s, .func (.func 31) #[] #[]] w fun e w' => e = .returned (.int .i64 (s.data.toList.takeWhile not10).length) ∧ w' = w := by
  unfold maxLen at hs
  have HF := Lib.hid (prem_any)
  go_enter Tryd.func24, Tryd.ntmps24
  go_wp2
  go_loop [5] (fun n => ∃ k : Nat, k ≤ s.size ∧ n = .int .i64 k ∧ Hid ((s.data.toList.takeWhile not10).length = k + ((s.data.toList.drop k).takeWhile not10).length)) (fun n => s.size - (intOf n).toNat)
  case atStart => exact ⟨0, Nat.zero_le _, rfl, by unfold Hid; simp⟩
  case round =>
    obtain ⟨k, hk, rfl, HK⟩ := hrel
    by_cases hlt : k < s.size
    · have HD := Lib.hid (byte_drop s k hlt)
      have HQ := Lib.hid (HF.out (s[k]) w)
      obtain ⟨c, hc⟩ : ∃ c, s[k] = c := ⟨_, rfl⟩
      rw [hc] at HD HQ
      cases hq : not10 c with
      | true =>
        rw [hq] at HQ
        have HE := Lib.hid hq
        clear hq
        go_wp2_with fail
        with_reducible refine HQ.out.mono ?_
        rintro e w1 ⟨rfl, rfl⟩
        go_wp2
        go_round
        case rel => exact ⟨k + 1, by omega, by go_num, by
          have h := HK.out
          rw [HD.out, List.takeWhile_cons, if_pos HE.out, List.length_cons] at h
          unfold Hid
          omega⟩
        case measure => simp [intOf]; omega
      | false =>
        rw [hq] at HQ
        have HE := Lib.hid hq
        clear hq
        go_wp2_with fail
        with_reducible refine HQ.out.mono ?_
        rintro e w1 ⟨rfl, rfl⟩
        go_wp2
        go_ret
        have h := HK.out
        rw [HD.out, List.takeWhile_cons, if_neg (by rw [HE.out]; decide)] at h
        exact ⟨by rw [h]; rfl, rfl⟩
    · go_wp2
      go_ret
      have h := HK.out
      rw [drop_end s k (by omega)] at h
      exact ⟨by rw [h]; rfl, rfl⟩

theorem conv_own (w : World) (s : ByteArray) : ∃ c, (convert 9 40 (.string s)).run Tryd.prog w = .ok (.slice (some ⟨w.heap.size, 0, none⟩) s.size c) (Lib.bytesWorld w 5 s) := by
  exact ⟨_, Lib.run_convert_string_bytes w _ _ _ s Tryd.underlying9 Tryd.underlying40 Tryd.underlying5⟩

set_option maxHeartbeats 400000 in
theorem own_any (s : ByteArray) (w : World) : Calls Tryd.prog 16 #[.string s] w fun e w' => e = .returned (.string s) ∧ Below w.heap.size w w' := by
  obtain ⟨c, h1⟩ := conv_own w s
  have hb : Below w.heap.size w (Lib.bytesWorld w 5 s) := by
    refine ⟨rfl, rfl, rfl, by rw [Lib.bytesWorld_size]; omega, fun k hk => Lib.bytesWorld_at_old w _ s k hk⟩
  have h2 := run_convert_bytes_back (P := Tryd.prog) (Lib.bytesWorld w 5 s) 40 9 5 ⟨w.heap.size, 0, none⟩ c s.data.toList Tryd.underlying40 Tryd.underlying5 Tryd.underlying9 (fun j hj => by
    rw [Addr.add_lit]
    have hj' : j < s.size := by rw [Lib.size_eq]; exact hj
    have := Lib.bytesWorld_cell w 5 s j hj'
    rw [Nat.zero_add, this]
    rw [List.getD_eq_getElem?_getD, List.getElem?_eq_getElem hj]
    rfl)
  rw [Lib.mk_data, ← Lib.size_eq] at h2
  obtain ⟨W, hW⟩ : ∃ W, Lib.bytesWorld w 5 s = W := ⟨_, rfl⟩
  rw [hW] at h1 h2 hb
  have HB := Lib.hid hb
  clear hW hb
  go_enter Tryd.func16, Tryd.ntmps16
  go_wp2
  go_ret
  exact ⟨rfl, HB.out⟩
end Go.Proofs.YtalnejbpgollkaaDoor
