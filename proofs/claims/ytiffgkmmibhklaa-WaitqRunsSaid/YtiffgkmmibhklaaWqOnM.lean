/-
  WaitqOnce: who waits behind the first loop, who expires, who is woken. No walk.
-/
import Derived.Test.YtiffgkmmibhklaaWqDuo
namespace Go.Proofs.Ytiffgkmmibhklaa
open Go.RowKit

/-- Those who wait, all for one key, behind the first k that came. -/
def onL (F : Nat → Wt) (key : Int) : Nat → List Wt
  | 0 => []
  | k + 1 => waitL 100 100 (onL F key k) ((F k).1, key, (F k).2.2)
theorem onL_len (F : Nat → Wt) (key : Int) : ∀ k, (onL F key k).length ≤ k
  | 0 => Nat.le_refl _
  | k + 1 => Nat.le_trans (waitL_le _ _ _ _) (by have := onL_len F key k; omega)
theorem onL_key (F : Nat → Wt) (key : Int) : ∀ k, ∀ y ∈ onL F key k, y.2.1 = key
  | 0, y, h => by simp [onL] at h
  | k + 1, y, h => by
    simp only [onL, waitL] at h
    split at h
    · rcases List.mem_append.1 h with h | h
      · exact onL_key F key k y h
      · obtain rfl := List.mem_singleton.1 h
        rfl
    · exact onL_key F key k y h
theorem whoI_none {L : List Wt} {a : Int} (h : ¬ 0 ≤ whoI L a) : a ∉ L.map (·.1) := by
  intro hm
  obtain ⟨y, hy, rfl⟩ := List.mem_map.1 hm
  rcases place_cases (fun x : Wt => decide (x.1 = y.1)) L with ⟨_, h2⟩ | ⟨k, hk, h1, _⟩
  · have := h2 y hy
    simp at this
  · exact h (by unfold whoI; omega)
/-- No number waits twice. -/
theorem onL_one (F : Nat → Wt) (key : Int) : ∀ k, ((onL F key k).map (·.1)).Nodup
  | 0 => by simp [onL]
  | k + 1 => by
    have ih := onL_one F key k
    simp only [onL, waitL]
    split
    · next h =>
      have h0 : ¬ 0 ≤ whoI (onL F key k) (F k).1 := by
        intro h0
        simp only [waitE] at h
        rw [if_pos h0] at h
        omega
      rw [List.map_append]
      refine List.nodup_append.2 ⟨ih, by simp, fun x hx y hy => ?_⟩
      simp at hy
      subst hy
      intro e
      subst e
      exact whoI_none h0 hx
    · exact ih

/-- Whose time is over: a time of one's own. -/
theorem dueI_over (L : List Wt) (now : Int) : ∀ (k j : Nat), dueI L now k = j → overW now (L.getD j (0, 0, 0)) = true
  | 0, j, h => by simp [dueI] at h
  | k + 1, j, h => by
    cases ho : overW now (L.getD k (0, 0, 0)) with
    | false => exact dueI_over L now k j (by rw [← due_skip ho]; exact h)
    | true =>
      have hr := dueI_range L now k
      by_cases h0 : dueI L now k < 0
      · rw [due_low ho h0] at h
        obtain rfl : k = j := by omega
        exact ho
      · obtain ⟨i, hi⟩ := Int.eq_ofNat_of_zero_le (show 0 ≤ dueI L now k by omega)
        cases ha : aheadW (L.getD k (0, 0, 0)) (L.getD i (0, 0, 0)) with
        | true =>
          rw [due_new ho hi ha] at h
          obtain rfl : k = j := by omega
          exact ho
        | false =>
          rw [due_old ho hi ha] at h
          obtain rfl : i = j := by omega
          exact dueI_over L now k i hi
theorem dueP_until {L : List Wt} {now : Int} {j : Nat} (h : dueP L now = j) : (L.getD j (0, 0, 0)).2.2 ≠ 0 := by
  have := dueI_over L now L.length j h
  simp [overW] at this
  exact this.1
theorem dueR_sub (now : Int) : ∀ (k : Nat) (L : List Wt), (dueR now k L).Sublist L
  | 0, L => List.Sublist.refl _
  | k + 1, L => by
    simp only [dueR]
    split
    · exact List.Sublist.refl _
    · exact (dueR_sub now k _).trans (List.eraseIdx_sublist ..)
theorem dueR_one {L : List Wt} (h : (L.map (·.1)).Nodup) (now : Int) (k : Nat) : ((dueR now k L).map (·.1)).Nodup := ((dueR_sub now k L).map _).nodup h
theorem dueR_key {L : List Wt} {key : Int} (h : ∀ y ∈ L, y.2.1 = key) (now : Int) (k : Nat) : ∀ y ∈ dueR now k L, y.2.1 = key := fun y hy => h y ((dueR_sub now k L).subset hy)
/-- Where a number stands in a row of numbers, no two of which are the same. -/
theorem nodup_at {A : List Int} (h : A.Nodup) {i j : Nat} (hi : i < A.length) (hj : j < A.length) : A.getD i 0 = A.getD j 0 ↔ i = j := by
  rw [List.getD_eq_getElem?_getD, List.getD_eq_getElem?_getD, List.getElem?_eq_getElem hi, List.getElem?_eq_getElem hj]
  simp only [Option.getD_some]
  exact ⟨fun e => (List.getElem_inj h).1 e, fun e => by subst e; rfl⟩

/-- All are woken, in order. -/
theorem wake_key {a : Int} : ∀ {k : Nat} {L : List Wt}, (∀ y ∈ L, y.2.1 = a) → L.length ≤ k → wakeO a k L = L.map (·.1) ∧ wakeL a k L = []
  | 0, L, _, hk => by
    obtain rfl : L = [] := List.eq_nil_of_length_eq_zero (by omega)
    exact ⟨rfl, rfl⟩
  | k + 1, [], _, _ => by
    have h0 : keyI ([] : List Wt) a < 0 := by simp [keyI, placeI]
    exact wake_none h0 (k + 1)
  | k + 1, x :: L, h, hk => by
    have h0 : keyI (x :: L) a = (0 : Nat) := by
      refine place_some (k := 0) (by simp) ?_ (fun j hj h => by omega)
      simpa using h x (by simp)
    obtain ⟨h1, h2⟩ := wake_some h0 k
    obtain ⟨i1, i2⟩ := wake_key (k := k) (L := L) (fun y hy => h y (by simp [hy])) (by simp at hk; omega)
    rw [h1, h2]
    simp only [List.eraseIdx_zero, List.tail_cons, List.map_cons]
    rw [i1]
    exact ⟨rfl, i2⟩
theorem wake_empty (a : Int) (k : Nat) : wakeO a k [] = [] ∧ wakeL a k [] = [] := wake_none (by simp [keyI, placeI]) k

abbrev encI (x : Int) : List Value := [.int .i64 x]
theorem encI_len (x : Int) : (encI x).length = 1 := rfl
theorem encI_one (x : Int) : ∀ u ∈ encI x, u.oneCell' = true := by
  intro u hu
  simp at hu
  subst hu
  rfl
theorem encI_cells (L : List Int) : cellsOf encI L = intsW L := by
  induction L with
  | nil => rfl
  | cons x L ih => simpa [cellsOf] using ih
end Go.Proofs.Ytiffgkmmibhklaa
