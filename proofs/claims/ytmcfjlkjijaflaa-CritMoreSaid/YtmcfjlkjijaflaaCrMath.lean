/-
  Critical sections and what fits some locks, plainly. No program.
-/
import Derived.Test.YtmcfjlkjijaflaaPgMath
namespace Go.Proofs.Ytmcfjlkjijaflaa

/-- A lock: Shared, Slice, Crit, Read, Write. -/
abbrev Lk := Bool × Int × Int × Int × Int
def takesR (o : Opn) : Bool := decide (2 ≤ o.1) && decide (o.1 ≤ 5)
def timeR (o : Opn) : Bool := decide (o.1 = 1) || (decide (o.1 = 7) || (decide (o.1 = 8) || decide (o.1 = 11)))
def endCr (lock : Int) (o : Opn) : Bool := decide (o.1 = 11) || (decide (o.1 = 6) && decide (o.2.1 = lock))
/-- From place j on, t ticks so far: where a section ends, its ticks. -/
def secR (lock : Int) : List Opn → Nat → Int → Nat × Int
  | [], j, t => (j, t)
  | o :: L, j, t => if endCr lock o then (j, t) else secR lock L (j + 1) (if o.1 = 1 then t + o.2.1 else t)
def lockR (locks : List Lk) (a : Int) : Lk := (locks[a.toNat]?).getD (false, 0, 0, 0, 0)
/-- What is met of an op; rest: the ops behind it; n: how many there are; i: its place. -/
def metR (f : Bool) (n : Nat) (locks : List Lk) (progs : Int) (o : Opn) (rest : List Opn) (i : Nat) : Int :=
  if ((takesR o || decide (o.1 = 6)) && decide ((locks.length : Int) ≤ o.2.1)) || (decide (o.1 = 9) && decide (progs ≤ o.2.1)) then 4
  else if o.1 = 3 ∧ (lockR locks o.2.1).1 = false then 1
  else if takesR o = true ∧ ((secR o.2.1 rest (i + 1) 0).2 < 1 ∨ (lockR locks o.2.1).2.2.1 < (secR o.2.1 rest (i + 1) 0).2 ∨ (f = true ∧ (secR o.2.1 rest (i + 1) 0).1 = n)) then 13
  else 0
/-- From place i on; time: an op ahead takes time. -/
def goR (f : Bool) (n : Nat) (locks : List Lk) (progs : Int) : List Opn → Nat → Bool → Nat × Int
  | [], _, time => if f = true ∧ time = false then (0, 1) else (0, 0)
  | o :: L, i, time => if metR f n locks progs o L i = 0 then goR f n locks progs L (i + 1) (time || timeR o) else (i, metR f n locks progs o L i)
def checkR (p : Prg) (locks : List Lk) (progs : Int) : Nat × Int := if mayR p then goR p.1 p.2.length locks progs p.2 0 false else (0, 1)

theorem met_cases (f : Bool) (n : Nat) (locks : List Lk) (progs : Int) (o : Opn) (rest : List Opn) (i : Nat) : metR f n locks progs o rest i = 0 ∨ metR f n locks progs o rest i = 1 ∨ metR f n locks progs o rest i = 4 ∨ metR f n locks progs o rest i = 13 := by
  unfold metR
  split
  · exact .inr (.inr (.inl rfl))
  · split
    · exact .inr (.inl rfl)
    · split
      · exact .inr (.inr (.inr rfl))
      · exact .inl rfl
/-- More is allowed by other locks. -/
def moreR (locks locks' : List Lk) : Prop := locks.length ≤ locks'.length ∧ ∀ i, i < locks.length → (lockR locks i).1 = (lockR locks' i).1 ∧ (lockR locks i).2.2.1 ≤ (lockR locks' i).2.2.1
theorem met_more {f : Bool} {n : Nat} {locks locks' : List Lk} {progs progs' : Int} {o : Opn} {rest : List Opn} {i : Nat} (hm : moreR locks locks') (hp : progs ≤ progs') (ho : opMay o = true) (h : metR f n locks progs o rest i = 0) : metR f n locks' progs' o rest i = 0 := by
  have ha : takesR o = true ∨ o.1 = 6 → 0 ≤ o.2.1 := by
    intro ht
    simp only [opMay, Bool.and_eq_true] at ho
    have ha := ho.2.1
    unfold aMay at ha
    have hk : (2 ≤ o.1 ∧ o.1 ≤ 6) := by
      rcases ht with h | h
      · simp only [takesR, Bool.and_eq_true, decide_eq_true_eq] at h
        omega
      · omega
    have hl : limR o.1 = (0, 7) := by
      unfold limR
      rw [if_neg (by omega), if_pos (.inl hk)]
    rw [hl] at ha
    simp at ha
    exact ha.1
  unfold metR at h ⊢
  split at h
  · simp at h
  · next h1 =>
    split at h
    · simp at h
    · next h2 =>
      split at h
      · simp at h
      · next h3 =>
        simp only [Bool.or_eq_true, Bool.and_eq_true, decide_eq_true_eq, not_or, not_and] at h1
        have hlt : takesR o = true ∨ o.1 = 6 → o.2.1 < locks.length := fun ht => by
          have := h1.1 ht
          omega
        have hmi : takesR o = true → (lockR locks o.2.1).1 = (lockR locks' o.2.1).1 ∧ (lockR locks o.2.1).2.2.1 ≤ (lockR locks' o.2.1).2.2.1 := fun ht => by
          have h0 := ha (.inl ht)
          have h4 := hlt (.inl ht)
          obtain ⟨a, haa⟩ := Int.eq_ofNat_of_zero_le h0
          rw [haa]
          exact hm.2 a (by omega)
        rw [if_neg (by
          simp only [Bool.or_eq_true, Bool.and_eq_true, decide_eq_true_eq, not_or, not_and]
          refine ⟨fun ht => ?_, fun h9 => ?_⟩
          · have := hlt ht
            have := hm.1
            omega
          · have := h1.2 h9
            omega)]
        rw [if_neg (by
          rintro ⟨h5, h6⟩
          have ht : takesR o = true := by simp [takesR, h5]
          rw [← (hmi ht).1] at h6
          exact h2 ⟨h5, h6⟩)]
        rw [if_neg (by
          rintro ⟨ht, h7⟩
          have h8 := (hmi ht).2
          refine h3 ⟨ht, ?_⟩
          rcases h7 with h7 | h7 | h7
          · exact .inl h7
          · exact .inr (.inl (by omega))
          · exact .inr (.inr h7))]
theorem go_more {f : Bool} {n : Nat} {locks locks' : List Lk} {progs progs' : Int} (hm : moreR locks locks') (hp : progs ≤ progs') : ∀ (L : List Opn) (i : Nat) (time : Bool), (∀ o ∈ L, opMay o = true) → (goR f n locks progs L i time).2 = 0 → (goR f n locks' progs' L i time).2 = 0
  | [], i, time, _, h => h
  | o :: L, i, time, ho, h => by
    unfold goR at h ⊢
    by_cases h0 : metR f n locks progs o L i = 0
    · rw [if_pos h0] at h
      rw [if_pos (met_more hm hp (ho o (by simp)) h0)]
      exact go_more hm hp L (i + 1) _ (fun x hx => ho x (by simp [hx])) h
    · rw [if_neg h0] at h
      exact absurd h h0
/-- What fits, fits with more allowed. -/
theorem check_more {p : Prg} {locks locks' : List Lk} {progs progs' : Int} (hm : moreR locks locks') (hp : progs ≤ progs') (h : (checkR p locks progs).2 = 0) : (checkR p locks' progs').2 = 0 := by
  unfold checkR at h ⊢
  split at h
  · next hq =>
    rw [if_pos hq]
    simp only [mayR, Bool.and_eq_true, decide_eq_true_eq, List.all_eq_true] at hq
    exact go_more hm hp _ _ _ hq.2.2 h
  · simp at h
/-- The ticks of a section of a program that may be. -/
theorem sec_bound (lock : Int) : ∀ (L : List Opn) (j : Nat) (t : Int), (∀ o ∈ L, opMay o = true) → t ≤ (secR lock L j t).2 ∧ (secR lock L j t).2 ≤ t + 16 * L.length ∧ j ≤ (secR lock L j t).1 ∧ (secR lock L j t).1 ≤ j + L.length
  | [], j, t, _ => by simp [secR]
  | o :: L, j, t, h => by
    unfold secR
    split
    · simp
      omega
    · have ho := h o (by simp)
      have hb : o.1 = 1 → 1 ≤ o.2.1 ∧ o.2.1 ≤ 16 := by
        intro h1
        simp only [opMay, Bool.and_eq_true] at ho
        have ha := ho.2.1
        unfold aMay limR at ha
        rw [if_pos h1] at ha
        simpa using ha
      have ih := sec_bound lock L (j + 1) (if o.1 = 1 then t + o.2.1 else t) (fun x hx => h x (by simp [hx]))
      simp only [List.length_cons]
      split at ih
      · next h1 =>
        have := hb h1
        rw [if_pos h1]
        refine ⟨?_, ?_, ?_, ?_⟩ <;> omega
      · next h1 =>
        rw [if_neg h1]
        refine ⟨?_, ?_, ?_, ?_⟩ <;> omega
end Go.Proofs.Ytmcfjlkjijaflaa
