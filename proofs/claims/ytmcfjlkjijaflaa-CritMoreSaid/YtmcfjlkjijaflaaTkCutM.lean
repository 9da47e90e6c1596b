/-
  The word that a text begins with, as the program finds it, is the document's. No program.
-/
import Derived.Test.YtmcfjlkjijaflaaTkBack
import Derived.Lib.Atoi
namespace Go.Proofs.Ytmcfjlkjijaflaa

def nameB (l : List By) : Bool := decide (1 ≤ l.length) && decide (l.length ≤ 12) && decide ((l.takeWhile isLet).length = l.length)
def numB (l : List By) : Bool := decide (l.length = 1) || (decide (1 < l.length) && decide (l.length ≤ 9) && !decide ((l.headD 0).toNat = 48))
def markB (l : List By) : Bool := l == [123] || (l == [125] || (l == [59] || (l == [46] || l == [61])))

/-- The word that a text begins with, and how many bytes it has: the program's way. -/
def cutP (l : List By) : Wd × Nat :=
  if nameB (l.take (l.takeWhile isLet).length) then ((1, l.take (l.takeWhile isLet).length, 0, 0), (l.takeWhile isLet).length)
  else if numB (l.take (l.takeWhile isDig).length) then ((2, [], numR (l.take (l.takeWhile isDig).length), 0), (l.takeWhile isDig).length)
  else if markB (l.take 1) then ((3, l.take 1, 0, 0), 1)
  else ((0, [], 0, 0), 0)

theorem take_takeWhile {q : By → Bool} (l : List By) : l.take (l.takeWhile q).length = l.takeWhile q := by
  have e : l.takeWhile q ++ l.dropWhile q = l := List.takeWhile_append_dropWhile
  have h := List.take_left (l₁ := l.takeWhile q) (l₂ := l.dropWhile q)
  rw [e] at h
  exact h
theorem takeWhile_twice {q : By → Bool} (l : List By) : (l.takeWhile q).takeWhile q = l.takeWhile q := by
  induction l with
  | nil => rfl
  | cons c t ih =>
    simp only [List.takeWhile_cons]
    split
    · next h => rw [List.takeWhile_cons, if_pos h, ih]
    · rfl
theorem mark_one (c : By) : markB [c] = isMk c := by
  unfold markB isMk
  have e : ∀ k : By, ([c] == [k]) = decide (c.toNat = k.toNat) := fun k => by
    rw [Bool.eq_iff_iff]
    simp [UInt8.toNat_inj]
  rw [e, e, e, e, e]
  rfl
theorem let_mark {c : By} (h : isLet c = true) : isMk c = false := by
  simp [isLet] at h
  simp [isMk]
  omega
theorem dig_mark {c : By} (h : isDig c = true) : isMk c = false := by
  simp [isDig] at h
  simp [isMk]
  omega
theorem let_dig {c : By} (h : isLet c = true) : isDig c = false := by
  simp [isLet] at h
  simp [isDig]
  omega
theorem name_nil : nameB [] = false := rfl
theorem num_nil : numB [] = false := rfl

theorem num_form (n : Nat) (b : Bool) : (decide (n + 1 = 1) || (decide (1 < n + 1) && decide (n + 1 ≤ 9) && !b)) = (decide (n < 9) && (!b || decide (n = 0))) := by
  cases b <;> (rw [Bool.eq_iff_iff]; simp; try omega)

theorem cut_one (c : By) (t : List By) : cutP (c :: t) = if (oneR c t 0).2.2 then ((oneR c t 0).1, 1 + (oneR c t 0).2.1) else ((0, [], 0, 0), 0) := by
  unfold cutP
  rw [take_takeWhile, take_takeWhile, show List.take 1 (c :: t) = [c] from rfl, mark_one]
  by_cases hl : isLet c = true
  · have e : oneR c t 0 = ((1, c :: t.takeWhile isLet, 0, ((0 : Nat) : Int)), (t.takeWhile isLet).length, decide ((t.takeWhile isLet).length < 12)) := by unfold oneR; rw [if_pos hl]
    have t1 : (c :: t).takeWhile isLet = c :: t.takeWhile isLet := by rw [List.takeWhile_cons, if_pos hl]
    have t2 : (c :: t).takeWhile isDig = [] := by rw [List.takeWhile_cons, if_neg (by simp [let_dig hl])]
    rw [e, t1, t2, let_mark hl, num_nil]
    have hn : nameB (c :: t.takeWhile isLet) = decide ((t.takeWhile isLet).length < 12) := by
      unfold nameB
      rw [List.takeWhile_cons, if_pos hl, takeWhile_twice]
      simp only [List.length_cons, decide_true, Bool.and_true]
      rw [Bool.eq_iff_iff]
      simp
      omega
    rw [hn]
    simp only [List.length_cons]
    by_cases h : (t.takeWhile isLet).length < 12
    · simp [h, Nat.add_comm]
    · simp [h]
  · by_cases hd : isDig c = true
    · have e : oneR c t 0 = ((2, [], ((numR ((c :: t.takeWhile isDig).take 9) : Nat) : Int), ((0 : Nat) : Int)), (t.takeWhile isDig).length, decide ((t.takeWhile isDig).length < 9) && (!decide (c.toNat = 48) || decide ((t.takeWhile isDig).length = 0))) := by unfold oneR; rw [if_neg hl, if_pos hd]
      have t1 : (c :: t).takeWhile isLet = [] := by rw [List.takeWhile_cons, if_neg hl]
      have t2 : (c :: t).takeWhile isDig = c :: t.takeWhile isDig := by rw [List.takeWhile_cons, if_pos hd]
      rw [e, t1, t2, dig_mark hd, name_nil]
      have hn : numB (c :: t.takeWhile isDig) = (decide ((t.takeWhile isDig).length < 9) && (!decide (c.toNat = 48) || decide ((t.takeWhile isDig).length = 0))) := by
        unfold numB
        exact num_form _ _
      rw [hn]
      by_cases h : (decide ((t.takeWhile isDig).length < 9) && (!decide (c.toNat = 48) || decide ((t.takeWhile isDig).length = 0))) = true
      · have h9 : (t.takeWhile isDig).length < 9 := by simp at h; exact h.1
        rw [h, List.take_of_length_le (by simp; omega)]
        simp [Nat.add_comm]
      · rw [Bool.not_eq_true] at h
        rw [h]
        simp
    · have e : oneR c t 0 = ((3, [c], 0, ((0 : Nat) : Int)), 0, isMk c) := by unfold oneR; rw [if_neg hl, if_neg hd]
      have t1 : (c :: t).takeWhile isLet = [] := by rw [List.takeWhile_cons, if_neg hl]
      have t2 : (c :: t).takeWhile isDig = [] := by rw [List.takeWhile_cons, if_neg hd]
      rw [e, t1, t2, name_nil, num_nil]
      cases isMk c <;> simp

/-- What digits come to is what the library reads. -/
theorem dec_digits : ∀ (l : List By) (a : Nat), (∀ c ∈ l, isDig c = true) → Lib.decFrom a l = some (l.foldl (fun n c => n * 10 + (c.toNat - 48)) a)
  | [], a, _ => rfl
  | c :: t, a, h => by
    have hc := h c (by simp)
    simp [isDig] at hc
    have hv : Lib.digitVal c = some (c.toNat - 48) := by unfold Lib.digitVal; rw [if_pos hc]
    simp only [Lib.decFrom, hv, List.foldl_cons]
    exact dec_digits t _ (fun x hx => h x (by simp [hx]))
theorem atoi_digits {l : List By} (h : ∀ c ∈ l, isDig c = true) (hne : l ≠ []) : Lib.atoi l = some (numR l : Int) := by
  cases l with
  | nil => exact absurd rfl hne
  | cons c t =>
    have hc := h c (by simp)
    simp [isDig] at hc
    have h45 : (c == 45) = false := by rw [beq_eq_false_iff_ne]; intro e; subst e; simp at hc
    have h43 : (c == 43) = false := by rw [beq_eq_false_iff_ne]; intro e; subst e; simp at hc
    simp only [Lib.atoi, h45, h43, Lib.decNat, List.isEmpty_cons, dec_digits _ _ h]
    rfl
theorem num_bound : ∀ (l : List By), (∀ c ∈ l, isDig c = true) → numR l < 10 ^ l.length := by
  intro l h
  have := Lib.decFrom_lt l 0 _ (dec_digits l 0 h)
  simpa [numR] using this
end Go.Proofs.Ytmcfjlkjijaflaa
