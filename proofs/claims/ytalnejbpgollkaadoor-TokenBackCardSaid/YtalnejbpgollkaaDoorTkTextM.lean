/-
  What a word is as a text: the program's way is the document's. No program.
-/
import Derived.Test.YtalnejbpgollkaaDoorTkCutM
namespace Go.Proofs.YtalnejbpgollkaaDoor

/-- The program's way. -/
def textP (w : Wd) : List By × Int :=
  if w.1 = 1 then if nameB w.2.1 && decide (w.2.2.1 = 0) then (w.2.1, 0) else ([], 1)
  else if w.1 = 2 then if w.2.1 == [] && decide (0 ≤ w.2.2.1) && decide (w.2.2.1 ≤ 999999999) then (digitsR w.2.2.1.toNat, 0) else ([], 1)
  else if w.1 = 3 then if markB w.2.1 && decide (w.2.2.1 = 0) then (w.2.1, 0) else ([], 1)
  else ([], 1)
theorem name_form (n : Nat) (b : Bool) : (decide (1 ≤ n + 1) && decide (n + 1 ≤ 12) && b) = (decide (n < 12) && b) := by
  cases b <;> (rw [Bool.eq_iff_iff]; simp; try omega)
theorem name_one (c : By) (t : List By) : nameB (c :: t) = (isLet c && decide ((t.takeWhile isLet).length = t.length) && decide (t.length < 12)) := by
  unfold nameB
  rw [List.length_cons, name_form]
  by_cases hl : isLet c = true
  · have t1 : (c :: t).takeWhile isLet = c :: t.takeWhile isLet := by rw [List.takeWhile_cons, if_pos hl]
    rw [t1, hl, List.length_cons, Bool.true_and, Bool.and_comm]
    congr 1
    rw [Bool.eq_iff_iff]
    simp
  · have t1 : (c :: t).takeWhile isLet = [] := by rw [List.takeWhile_cons, if_neg hl]
    rw [t1]
    simp only [Bool.not_eq_true] at hl
    rw [hl]
    simp
theorem mark_more (c : By) (t : List By) : markB (c :: t) = (isMk c && decide (t = [])) := by
  cases t with
  | nil => rw [mark_one]; simp
  | cons a t => simp [markB]
theorem text_eq (w : Wd) : textP w = textA w := by
  obtain ⟨k, x, n, p⟩ := w
  unfold textP textA textR
  simp only
  by_cases h2 : k = 2
  · subst h2
    simp only [show ¬ (2 : Int) = 1 by decide, if_false, if_true]
    by_cases hx : x = []
    · subst hx
      by_cases h0 : 0 ≤ n
      · by_cases h9 : n ≤ 999999999
        · simp [h0, h9]
        · simp [h9]
      · simp [h0]
    · have : (x == []) = false := by simpa using hx
      simp [this, hx]
  · rw [if_neg h2]
    rw [if_neg h2]
    by_cases hn : n = 0
    · subst hn
      simp only [ne_eq, not_true, if_false, decide_true, Bool.and_true]
      cases x with
      | nil =>
        by_cases h1 : k = 1
        · simp [h1, name_nil]
        · by_cases h3 : k = 3
          · simp [h3, markB]
          · simp [h1, h3]
      | cons c t =>
        rw [name_one, mark_more]
        dsimp only
        by_cases hl : isLet c = true
        · have e : oneR c t 0 = ((1, c :: t.takeWhile isLet, 0, ((0 : Nat) : Int)), (t.takeWhile isLet).length, decide ((t.takeWhile isLet).length < 12)) := by unfold oneR; rw [if_pos hl]
          rw [e, hl, let_mark hl]
          by_cases h1 : k = 1
          · subst h1
            by_cases hm : (t.takeWhile isLet).length = t.length
            · by_cases h12 : t.length < 12
              · simp [hm, h12]
              · simp [hm, h12]
            · simp [hm]
          · by_cases h3 : k = 3
            · simp [h3]
            · simp [h1, h3]
        · simp only [Bool.not_eq_true] at hl
          by_cases hd : isDig c = true
          · have e : (oneR c t 0).1.1 = 2 := by unfold oneR; rw [if_neg (by simp [hl]), if_pos hd]
            rw [e, hl, dig_mark hd]
            have h2' : ¬ (2 : Int) = k := fun h => h2 h.symm
            simp [h2']
          · simp only [Bool.not_eq_true] at hd
            have e : oneR c t 0 = ((3, [c], 0, ((0 : Nat) : Int)), 0, isMk c) := by unfold oneR; rw [if_neg (by simp [hl]), if_neg (by simp [hd])]
            rw [e, hl]
            by_cases h1 : k = 1
            · simp [h1]
            · by_cases h3 : k = 3
              · subst h3
                cases isMk c with
                | false => simp
                | true =>
                  cases t with
                  | nil => simp
                  | cons a t => simp
              · simp [h1, h3]
    · simp [hn]
end Go.Proofs.YtalnejbpgollkaaDoor
