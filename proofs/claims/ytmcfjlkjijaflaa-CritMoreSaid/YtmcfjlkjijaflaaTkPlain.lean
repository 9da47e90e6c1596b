/-
  What lies between words, and what may stand beside a word; plainly. No program.
-/
import Derived.Test.YtmcfjlkjijaflaaTkCutM
namespace Go.Proofs.Ytmcfjlkjijaflaa

/-- How many bytes lie ahead of the next word. -/
def skipN (l : List By) : Nat :=
  match l with
  | [] => 0
  | c :: t => if isBl c then 1 + skipN t else if c.toNat = 35 then 1 + (t.takeWhile not10).length + skipN (t.dropWhile not10) else 0
termination_by l.length
decreasing_by
  all_goals simp_wf
  have := (List.dropWhile_sublist (l := t) not10).length_le
  omega
theorem skip_nil : skipN [] = 0 := by rw [skipN]
theorem skip_blank {c : By} (h : isBl c = true) (t : List By) : skipN (c :: t) = 1 + skipN t := by rw [skipN, if_pos h]
theorem skip_rem {c : By} (h0 : isBl c = false) (h : c.toNat = 35) (t : List By) : skipN (c :: t) = 1 + (t.takeWhile not10).length + skipN (t.dropWhile not10) := by rw [skipN, if_neg (by simp [h0]), if_pos h]
theorem skip_stop {c : By} (h0 : isBl c = false) (h : ¬ c.toNat = 35) (t : List By) : skipN (c :: t) = 0 := by rw [skipN, if_neg (by simp [h0]), if_neg h]
theorem drop_take_len {q : By → Bool} (t : List By) : t.drop (t.takeWhile q).length = t.dropWhile q := by
  induction t with
  | nil => rfl
  | cons c t ih =>
    simp only [List.takeWhile_cons, List.dropWhile_cons]
    split
    · simpa using ih
    · rfl
theorem skip_le : ∀ (n : Nat) (l : List By), l.length ≤ n → skipN l ≤ l.length
  | _, [], _ => by rw [skip_nil]; omega
  | 0, _ :: _, h => by simp at h
  | n + 1, c :: t, h => by
    simp only [List.length_cons] at h ⊢
    cases h0 : isBl c with
    | true =>
      rw [skip_blank h0]
      have := skip_le n t (by omega)
      omega
    | false =>
      by_cases h1 : c.toNat = 35
      · rw [skip_rem h0 h1]
        have e : t.takeWhile not10 ++ t.dropWhile not10 = t := List.takeWhile_append_dropWhile
        have e2 := congrArg List.length e
        rw [List.length_append] at e2
        have := skip_le n (t.dropWhile not10) (by omega)
        omega
      · rw [skip_stop h0 h1]; omega
/-- A scan begins behind what lies ahead of the next word. -/
theorem scan_skip : ∀ (n : Nat) (l : List By) (p : Nat) (adj : Bool), l.length ≤ n → scanR l p adj = scanR (l.drop (skipN l)) (p + skipN l) (adj && decide (skipN l = 0))
  | _, [], p, adj, _ => by rw [skip_nil]; simp [scan_nil]
  | 0, _ :: _, _, _, h => by simp at h
  | n + 1, c :: t, p, adj, h => by
    simp only [List.length_cons] at h
    cases h0 : isBl c with
    | true =>
      rw [skip_blank h0, scan_blank h0, scan_skip n t _ _ (by omega), show 1 + skipN t = skipN t + 1 by omega, List.drop_succ_cons, show p + 1 + skipN t = p + (skipN t + 1) by omega]
      simp
    | false =>
      by_cases h1 : c.toNat = 35
      · have e : t.takeWhile not10 ++ t.dropWhile not10 = t := List.takeWhile_append_dropWhile
        have e2 := congrArg List.length e
        rw [List.length_append] at e2
        rw [skip_rem h0 h1, scan_remark h0 h1, scan_skip n _ _ _ (by omega), show 1 + (t.takeWhile not10).length + skipN (t.dropWhile not10) = ((t.takeWhile not10).length + skipN (t.dropWhile not10)) + 1 by omega, List.drop_succ_cons, ← List.drop_drop, drop_take_len, show p + 1 + (t.takeWhile not10).length + skipN (t.dropWhile not10) = p + ((t.takeWhile not10).length + skipN (t.dropWhile not10) + 1) by omega]
        simp
      · rw [skip_stop h0 h1]; simp
/-- Behind it is a word, or nothing, or what isn't one. -/
theorem skip_at : ∀ (n : Nat) (l : List By), l.length ≤ n → l.drop (skipN l) = [] ∨ ∃ c t, l.drop (skipN l) = c :: t ∧ isBl c = false ∧ ¬ c.toNat = 35
  | _, [], _ => by rw [skip_nil]; exact .inl rfl
  | 0, _ :: _, h => by simp at h
  | n + 1, c :: t, h => by
    simp only [List.length_cons] at h
    cases h0 : isBl c with
    | true => rw [skip_blank h0, show 1 + skipN t = skipN t + 1 by omega, List.drop_succ_cons]; exact skip_at n t (by omega)
    | false =>
      by_cases h1 : c.toNat = 35
      · have e : t.takeWhile not10 ++ t.dropWhile not10 = t := List.takeWhile_append_dropWhile
        have e2 := congrArg List.length e
        rw [List.length_append] at e2
        rw [skip_rem h0 h1, show 1 + (t.takeWhile not10).length + skipN (t.dropWhile not10) = ((t.takeWhile not10).length + skipN (t.dropWhile not10)) + 1 by omega, List.drop_succ_cons, ← List.drop_drop, drop_take_len]
        exact skip_at n _ (by omega)
      · rw [skip_stop h0 h1]; exact .inr ⟨c, t, rfl, h0, h1⟩
/-- May the next word, side by side with the last one, be a mark alone? -/
def lastB (ws : List Wd) : Bool := match ws.getLast? with
  | none => false
  | some x => !decide (x.1 = 3)
theorem lastB_snoc (ws : List Wd) (x : Wd) : lastB (ws ++ [x]) = !decide (x.1 = 3) := by simp [lastB]
theorem lastB_nil : lastB [] = false := rfl
theorem one_place (c : By) (t : List By) (p : Nat) : oneR c t p = (placed (oneR c t 0).1 p, (oneR c t 0).2.1, (oneR c t 0).2.2) := by
  unfold oneR placed
  split
  · rfl
  · split
    · rfl
    · rfl
theorem sameR_refl (x : Wd) : sameR x x := ⟨rfl, rfl, rfl⟩
theorem sameL_get {a b : List Wd} (h : sameL a b) (i : Nat) (h1 : i < a.length) (h2 : i < b.length) : sameR a[i] b[i] := by
  have := sameL_at h i h1
  simpa [List.getD_eq_getElem?_getD, h1, h2] using this
theorem scan_len (l : List By) (h : l.length ≤ 8000) : (scanA l).1.length ≤ 8000 := by
  have key : ∀ (n : Nat) (m : List By) (p : Nat) (adj : Bool) (ws : List Wd), m.length ≤ n → scanR m p adj = .ok ws → ws.length ≤ m.length := by
    intro n
    induction n with
    | zero =>
      intro m p adj ws hm hs
      have : m = [] := List.eq_nil_of_length_eq_zero (by omega)
      subst this
      rw [scan_nil] at hs
      cases hs
      simp
    | succ n ih =>
      intro m p adj ws hm hs
      cases m with
      | nil =>
        rw [scan_nil] at hs
        cases hs
        simp
      | cons c t =>
        simp only [List.length_cons] at hm ⊢
        cases h0 : isBl c with
        | true =>
          rw [scan_blank h0] at hs
          have := ih t _ _ ws (by omega) hs
          omega
        | false =>
          by_cases h35 : c.toNat = 35
          · rw [scan_remark h0 h35] at hs
            have hd := (List.dropWhile_sublist (l := t) not10).length_le
            have := ih _ _ _ ws (by omega) hs
            omega
          · cases hb : (!(oneR c t p).2.2 || (adj && !decide ((oneR c t p).1.1 = 3))) with
            | true =>
              rw [scan_bad h0 h35 t p adj hb] at hs
              cases hs
            | false =>
              rw [scan_word h0 h35 t p adj hb] at hs
              cases hr : scanR (t.drop (oneR c t p).2.1) (p + 1 + (oneR c t p).2.1) (!decide ((oneR c t p).1.1 = 3)) with
              | error q =>
                rw [hr] at hs
                cases hs
              | ok ws' =>
                rw [hr] at hs
                have e : ws = (oneR c t p).1 :: ws' := by
                  simp only [prepR, Except.ok.injEq, List.cons_append, List.nil_append] at hs
                  exact hs.symm
                have := ih _ _ _ ws' (by rw [List.length_drop]; omega) hr
                rw [List.length_drop] at this
                rw [e, List.length_cons]
                omega
  unfold scanA
  rw [if_neg (by omega)]
  cases hs : scanR l 0 false with
  | ok ws =>
    have := key _ l 0 false ws (Nat.le_refl _) hs
    simp only
    omega
  | error p => simp
end Go.Proofs.Ytmcfjlkjijaflaa
