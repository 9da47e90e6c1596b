/-
  Of numbered values each so-many-th is taken out: what is left, how many, in which order. No program.
-/
import Derived.Test.YtnoiifnknkakoaaHbPerm
namespace Go.Proofs.Ytnoiifnknkakoaa

/-- The places below n, without those below j that each divides. -/
def leftI (n each j : Nat) : List Nat := (List.range n).filter fun i => !(decide (i < j) && decide (i % each = 0))
/-- The places from k on, below n, that each does not divide. -/
def popI (n each k : Nat) : List Nat := (List.range n).filter fun i => decide (k ≤ i) && !decide (i % each = 0)
theorem leftI_zero (n each : Nat) : leftI n each 0 = List.range n := by
  unfold leftI
  rw [List.filter_eq_self]
  intro i _
  simp
theorem leftI_mem {n each j i : Nat} : i ∈ leftI n each j ↔ i < n ∧ (i < j → i % each ≠ 0) := by
  simp [leftI]
  omega
theorem leftI_nodup (n each j : Nat) : (leftI n each j).Nodup := List.nodup_range.filter _
theorem leftI_skip {n each j : Nat} (h : j % each ≠ 0) : leftI n each (j + 1) = leftI n each j := by
  unfold leftI
  refine List.filter_congr fun i _ => ?_
  by_cases e : i = j
  · subst e
    simp [h]
  · have : decide (i < j + 1) = decide (i < j) := by
      rw [decide_eq_decide]
      omega
    rw [this]
/-- In a row whose ones are apart, one is taken off its place. -/
theorem erase_place {α : Type} [DecidableEq α] : ∀ {L : List α} {x : α}, L.Nodup → x ∈ L → ∃ p, ∃ h : p < L.length, L[p] = x ∧ L.eraseIdx p = L.filter (fun y => !decide (y = x)) := by
  intro L
  induction L with
  | nil => intro x _ h; simp at h
  | cons a L ih =>
    intro x nd hx
    rw [List.nodup_cons] at nd
    by_cases e : a = x
    · subst e
      refine ⟨0, by simp, rfl, ?_⟩
      rw [List.filter_cons_of_neg (by simp), List.eraseIdx_cons_zero]
      refine (List.filter_eq_self.2 fun y hy => ?_).symm
      have : y ≠ a := fun h => nd.1 (h ▸ hy)
      simp [this]
    · obtain ⟨p, hp, h1, h2⟩ := ih nd.2 ((List.mem_cons.1 hx).resolve_left (fun h => e h.symm))
      refine ⟨p + 1, by simp; omega, by simpa using h1, ?_⟩
      rw [List.filter_cons_of_pos (by simp [e]), List.eraseIdx_cons_succ, h2]
/-- Place j is taken out. -/
theorem leftI_take {n each j : Nat} (hj : j < n) (h : j % each = 0) : ∃ p, ∃ hp : p < (leftI n each j).length, (leftI n each j)[p] = j ∧ (leftI n each j).eraseIdx p = leftI n each (j + 1) := by
  obtain ⟨p, hp, h1, h2⟩ := erase_place (leftI_nodup n each j) (leftI_mem.2 ⟨hj, fun hh => absurd hh (by omega)⟩ : j ∈ leftI n each j)
  refine ⟨p, hp, h1, h2.trans ?_⟩
  unfold leftI
  rw [List.filter_filter]
  refine List.filter_congr fun i _ => ?_
  by_cases e : i = j
  · subst e
    simp [h]
  · have : decide (i < j + 1) = decide (i < j) := by
      rw [decide_eq_decide]
      omega
    simp [this, e]
theorem leftI_all (n each : Nat) : leftI n each n = popI n each 0 := by
  unfold leftI popI
  refine List.filter_congr fun i hi => ?_
  have := List.mem_range.1 hi
  simp [this]
theorem popI_skip {n each k : Nat} (h : k % each = 0) : popI n each k = popI n each (k + 1) := by
  unfold popI
  refine List.filter_congr fun i _ => ?_
  by_cases e : i = k
  · subst e
    simp [h]
  · have : decide (k + 1 ≤ i) = decide (k ≤ i) := by
      rw [decide_eq_decide]
      omega
    rw [this]
theorem popI_end (n each : Nat) : popI n each n = [] := by
  unfold popI
  rw [List.filter_eq_nil_iff]
  intro i hi
  have := List.mem_range.1 hi
  simp
  omega
theorem popI_more {n each k : Nat} (hk : k ≤ n) : popI (n + 1) each k = popI n each k ++ (if n % each = 0 then [] else [n]) := by
  unfold popI
  rw [List.range_succ, List.filter_append]
  by_cases h : n % each = 0 <;> simp [h, hk]
/-- The first one that is left. -/
theorem popI_next {each k : Nat} (h : k % each ≠ 0) : ∀ {n : Nat}, k < n → popI n each k = k :: popI n each (k + 1) := by
  intro n
  induction n with
  | zero => intro h; omega
  | succ n ih =>
    intro hk
    by_cases e : k = n
    · subst e
      rw [popI_more (Nat.le_refl _), popI_end, if_neg h]
      rw [popI_end]
      rfl
    · rw [popI_more (by omega), popI_more (by omega), ih (by omega)]
      rfl
theorem popI_len {each : Nat} (he : 2 ≤ each) : ∀ n : Nat, (popI n each 0).length = n - (n + each - 1) / each := by
  intro n
  induction n with
  | zero =>
    have : (0 + each - 1) / each = 0 := Nat.div_eq_of_lt (by omega)
    rw [this]
    rfl
  | succ n ih =>
    rw [popI_more (Nat.zero_le _), List.length_append, ih]
    have hd := Nat.div_add_mod n each
    have hm : n % each < each := Nat.mod_lt _ (by omega)
    obtain ⟨q, hq⟩ : ∃ q, n / each = q := ⟨_, rfl⟩
    obtain ⟨r, hr⟩ : ∃ r, n % each = r := ⟨_, rfl⟩
    rw [hq, hr] at hd
    rw [hr] at hm ⊢
    have e1 : (n + 1 + each - 1) / each = q + 1 := by
      rw [show n + 1 + each - 1 = each * (q + 1) + r by rw [Nat.mul_add]; omega, Nat.mul_add_div (by omega), Nat.div_eq_of_lt hm]
    have hqn : q ≤ n := by
      rw [← hq]
      exact Nat.div_le_self _ _
    rw [e1]
    by_cases h : r = 0
    · subst h
      have e2 : (n + each - 1) / each = q := by
        rw [show n + each - 1 = each * q + (each - 1) by omega, Nat.mul_add_div (by omega), Nat.div_eq_of_lt (by omega)]
        rfl
      rw [e2]
      simp
    · have e2 : (n + each - 1) / each = q + 1 := by
        rw [show n + each - 1 = each * (q + 1) + (r - 1) by rw [Nat.mul_add]; omega, Nat.mul_add_div (by omega), Nat.div_eq_of_lt (by omega)]
      have h1 : q + 1 ≤ n := by
        have : each * q + r = n := hd
        have : 2 * q ≤ each * q := Nat.mul_le_mul_right _ he
        omega
      rw [e2, if_neg h]
      simp
      omega
/-- Items by their places: tickets from 1 on, values. -/
def tick (z : Nat → Int) (L : List Nat) : List (Int × Int) := L.map fun i => (((i : Nat) : Int) + 1, z i)
theorem tick_len (z : Nat → Int) (L : List Nat) : (tick z L).length = L.length := by simp [tick]
theorem tick_range_succ (z : Nat → Int) (n : Nat) : tick z (List.range (n + 1)) = tick z (List.range n) ++ [((n : Int) + 1, z n)] := by simp [tick, List.range_succ]
theorem tick_cons (z : Nat → Int) (i : Nat) (L : List Nat) : tick z (i :: L) = ((i : Int) + 1, z i) :: tick z L := rfl
theorem tick_erase (z : Nat → Int) (L : List Nat) (p : Nat) : (tick z L).eraseIdx p = tick z (L.eraseIdx p) := by
  induction L generalizing p with
  | nil => rfl
  | cons i L ih =>
    cases p with
    | zero => rfl
    | succ p =>
      rw [tick_cons, List.eraseIdx_cons_succ, ih, List.eraseIdx_cons_succ, tick_cons]
theorem tick_at {z : Nat → Int} {L : List Nat} {p : Nat} (h : p < L.length) : (tick z L)[p]'(by rw [tick_len]; exact h) = (((L[p] : Nat) : Int) + 1, z L[p]) := by simp [tick]
theorem tick_apart {z : Nat → Int} {L : List Nat} (nd : L.Nodup) : ((tick z L).map fun x => x.1).Nodup := by
  have e : ((tick z L).map fun x => x.1) = L.map fun i => ((i : Nat) : Int) + 1 := by simp [tick, Function.comp_def]
  rw [e]
  exact List.Pairwise.map _ (fun a b h => by omega) nd
end Go.Proofs.Ytnoiifnknkakoaa
