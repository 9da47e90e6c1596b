/-
  What lies between words: how much of it there is; the program's skip.
-/
import Derived.Test.YtalnejbpgollkaaDoorTkRun
namespace Go.Proofs.YtalnejbpgollkaaDoor
open Go.RowKit

/-- How many bytes lie ahead of the next word. -/
def skipN (l : List By) : Nat :=
  match l with
  | [] => 0
  | c :: t => if isBl c then 1 + skipN t else if c.toNat = 35 then 1 + (t.takeWhile not10).length + skipN (t.dropWhile not10) else 0
termination_by l.length
decreasing_by
  all_goals simp_wf
  have := (List.dropWhile_sublist (l := t) not10).length_le
  omega
theorem skip_nil : skipN [] = 0 := by rw [skipN]
theorem skip_blank {c : By} (h : isBl c = true) (t : List By) : skipN (c :: t) = 1 + skipN t := by rw [skipN, if_pos h]
theorem skip_rem {c : By} (h0 : isBl c = false) (h : c.toNat = 35) (t : List By) : skipN (c :: t) = 1 + (t.takeWhile not10).length + skipN (t.dropWhile not10) := by rw [skipN, if_neg (by simp [h0]), if_pos h]
theorem skip_stop {c : By} (h0 : isBl c = false) (h : ¬ c.toNat = 35) (t : List By) : skipN (c :: t) = 0 := by rw [skipN, if_neg (by simp [h0]), if_neg h]
theorem drop_take_len {q : By → Bool} (t : List By) : t.drop (t.takeWhile q).length = t.dropWhile q := by
  induction t with
  | nil => rfl
  | cons c t ih =>
    simp only [List.takeWhile_cons, List.dropWhile_cons]
    split
    · simpa using ih
    · rfl
theorem skip_le : ∀ (n : Nat) (l : List By), l.length ≤ n → skipN l ≤ l.length
  | _, [], _ => by rw [skip_nil]; omega
  | 0, _ :: _, h => by simp at h
  | n + 1, c :: t, h => by
    simp only [List.length_cons] at h ⊢
    cases h0 : isBl c with
    | true =>
      rw [skip_blank h0]
      have := skip_le n t (by omega)
      omega
    | false =>
      by_cases h1 : c.toNat = 35
      · rw [skip_rem h0 h1]
        have e : t.takeWhile not10 ++ t.dropWhile not10 = t := List.takeWhile_append_dropWhile
        have e2 := congrArg List.length e
        rw [List.length_append] at e2
        have := skip_le n (t.dropWhile not10) (by omega)
        omega
      · rw [skip_stop h0 h1]; omega
/-- A scan begins behind what lies ahead of the next word. -/
theorem scan_skip : ∀ (n : Nat) (l : List By) (p : Nat) (adj : Bool), l.length ≤ n → scanR l p adj = scanR (l.drop (skipN l)) (p + skipN l) (adj && decide (skipN l = 0))
  | _, [], p, adj, _ => by rw [skip_nil]; simp [scan_nil]
  | 0, _ :: _, _, _, h => by simp at h
  | n + 1, c :: t, p, adj, h => by
    simp only [List.length_cons] at h
    cases h0 : isBl c with
    | true =>
      rw [skip_blank h0, scan_blank h0, scan_skip n t _ _ (by omega), show 1 + skipN t = skipN t + 1 by omega, List.drop_succ_cons, show p + 1 + skipN t = p + (skipN t + 1) by omega]
      simp
    | false =>
      by_cases h1 : c.toNat = 35
      · have e : t.takeWhile not10 ++ t.dropWhile not10 = t := List.takeWhile_append_dropWhile
        have e2 := congrArg List.length e
        rw [List.length_append] at e2
        rw [skip_rem h0 h1, scan_remark h0 h1, scan_skip n _ _ _ (by omega), show 1 + (t.takeWhile not10).length + skipN (t.dropWhile not10) = ((t.takeWhile not10).length + skipN (t.dropWhile not10)) + 1 by omega, List.drop_succ_cons, ← List.drop_drop, drop_take_len, show p + 1 + (t.takeWhile not10).length + skipN (t.dropWhile not10) = p + ((t.takeWhile not10).length + skipN (t.dropWhile not10) + 1) by omega]
        simp
      · rw [skip_stop h0 h1]; simp
/-- Behind it is a word, or nothing, or what isn't one. -/
theorem skip_at : ∀ (n : Nat) (l : List By), l.length ≤ n → l.drop (skipN l) = [] ∨ ∃ c t, l.drop (skipN l) = c :: t ∧ isBl c = false ∧ ¬ c.toNat = 35
  | _, [], _ => by rw [skip_nil]; exact .inl rfl
  | 0, _ :: _, h => by simp at h
  | n + 1, c :: t, h => by
    simp only [List.length_cons] at h
    cases h0 : isBl c with
    | true => rw [skip_blank h0, show 1 + skipN t = skipN t + 1 by omega, List.drop_succ_cons]; exact skip_at n t (by omega)
    | false =>
      by_cases h1 : c.toNat = 35
      · have e : t.takeWhile not10 ++ t.dropWhile not10 = t := List.takeWhile_append_dropWhile
        have e2 := congrArg List.length e
        rw [List.length_append] at e2
        rw [skip_rem h0 h1, show 1 + (t.takeWhile not10).length + skipN (t.dropWhile not10) = ((t.takeWhile not10).length + skipN (t.dropWhile not10)) + 1 by omega, List.drop_succ_cons, ← List.drop_drop, drop_take_len]
        exact skip_at n _ (by omega)
      · rw [skip_stop h0 h1]; exact .inr ⟨c, t, rfl, h0, h1⟩

theorem bl_from (s : ByteArray) (k : Nat) : (s.extract k s.size).data.toList = s.data.toList.drop k := by
  rw [Lib.extract_data]
  exact List.take_of_length_le (by rw [List.length_drop, ← Lib.size_eq]; omega)
theorem size_from (s : ByteArray) (k : Nat) : (s.extract k s.size).size = s.size - k := by
  rw [Lib.size_eq, bl_from, List.length_drop, ← Lib.size_eq]

set_option maxHeartbeats 800000 in
theorem skip_any (s : ByteArray) (p : Nat) (w : World) (hp : p ≤ s.size) (hs : s.size ≤ maxLen) :
    Calls Tryd.prog 21 #[.string s, .int .i64 p] w fun e w' => e = .returned (.int .i64 (p + skipN (s.data.toList.drop p) : Nat)) ∧ w' = w := by
  have hs' := hs
  unfold maxLen at hs
  obtain ⟨T, hT⟩ : ∃ T, p + skipN (s.data.toList.drop p) = T := ⟨_, rfl⟩
  rw [hT]
  have HT := Lib.hid hT
  clear hT
  go_enter Tryd.func21, Tryd.ntmps21
  go_wp2
  go_loop [1] (fun a => ∃ k : Nat, k ≤ s.size ∧ a = .int .i64 k ∧ Hid (k + skipN (s.data.toList.drop k) = T)) (fun a => s.size - (intOf a).toNat)
  case atStart => exact ⟨p, hp, rfl, HT⟩
  case round =>
    obtain ⟨k, hk, rfl, HK⟩ := hrel
    by_cases hlt : k < s.size
    · have HD := Lib.hid (byte_drop s k hlt)
      have HQ := Lib.hid (pbl_any (s[k]) w)
      have HR := Lib.hid (run_rem (s.extract k s.size) w (by rw [size_from]; unfold maxLen; omega))
      have HL := Lib.hid (show ((s.extract k s.size).data.toList.takeWhile not10).length ≤ s.size - k by
        rw [bl_from]
        have h1 := (List.takeWhile_sublist (l := s.data.toList.drop k) not10).length_le
        rw [List.length_drop, ← Lib.size_eq] at h1
        exact h1)
      have HB := Lib.hid (bl_from s k)
      obtain ⟨c, hc⟩ : ∃ c, s[k] = c := ⟨_, rfl⟩
      obtain ⟨s', hs'⟩ : ∃ s', s.extract k s.size = s' := ⟨_, rfl⟩
      rw [hc] at HD HQ
      rw [hs'] at HR HL HB
      obtain ⟨m, hm⟩ : ∃ m, (s'.data.toList.takeWhile not10).length = m := ⟨_, rfl⟩
      rw [hm] at HR HL
      have HM := Lib.hid hm
      clear hm
      cases hq : isBl c with
      | true =>
        rw [hq] at HQ
        have HE := Lib.hid hq
        clear hq hs'
        go_wp2_with fail
        with_reducible refine HQ.out.mono ?_
        rintro e w1 ⟨rfl, rfl⟩
        go_wp2
        go_round
        case rel => exact ⟨k + 1, by omega, by go_num, by
          have h := HK.out
          rw [HD.out, skip_blank HE.out] at h
          unfold Hid
          omega⟩
        case measure => simp [intOf]; omega
      | false =>
        rw [hq] at HQ
        have HE := Lib.hid hq
        clear hq
        by_cases h35 : c.toNat = 35
        · have HF := Lib.hid h35
          have d1 : ((c.toNat : Int) == 35) = true := by simp [h35]
          clear h35
          go_wp2_with fail
          with_reducible refine HQ.out.mono ?_
          rintro e w1 ⟨rfl, rfl⟩
          go_wp2_with fail
          with_reducible refine HR.out.mono ?_
          rintro e w1 ⟨rfl, rfl⟩
          have hl := HL.out
          have hl1 : 1 ≤ m := by
            have h := HM.out
            rw [HB.out, HD.out, List.takeWhile_cons, if_pos (by simp [not10, HF.out])] at h
            rw [← h]
            simp
          go_wp2
          go_round
          case rel => exact ⟨k + m, by omega, by go_num, by
            have h := HK.out
            rw [HD.out, skip_rem HE.out HF.out] at h
            have h2 := HM.out
            rw [HB.out, HD.out, List.takeWhile_cons, if_pos (by simp [not10, HF.out]), List.length_cons] at h2
            have e : s.data.toList.drop (k + m) = (s.data.toList.drop (k + 1)).dropWhile not10 := by
              rw [← drop_take_len, List.drop_drop]
              congr 1
              omega
            unfold Hid
            rw [e]
            omega⟩
          case measure => simp [intOf]; omega
        · have HF := Lib.hid h35
          have d1 : ((c.toNat : Int) == 35) = false := by simp; omega
          clear h35
          go_wp2_with fail
          with_reducible refine HQ.out.mono ?_
          rintro e w1 ⟨rfl, rfl⟩
          go_wp2
          go_ret
          have h := HK.out
          rw [HD.out, skip_stop HE.out HF.out] at h
          exact ⟨by rw [← h]; rfl, rfl⟩
    · go_wp2
      go_ret
      have h := HK.out
      rw [drop_end s k (by omega), skip_nil] at h
      exact ⟨by rw [← h]; rfl, rfl⟩
end Go.Proofs.YtalnejbpgollkaaDoor
