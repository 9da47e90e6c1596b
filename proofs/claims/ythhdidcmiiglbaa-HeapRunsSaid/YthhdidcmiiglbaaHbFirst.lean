/-
  The document's First: the one that is due first. No walk.
-/
import Derived.Test.YthhdidcmiiglbaaHpTakeAt
import Derived.Test.YthhdidcmiiglbaaHbPops
namespace Go.Proofs.Ythhdidcmiiglbaa

theorem ahead_iff (a b : It) : ahead a b = true ↔ KLt (a.1, a.2.1) (b.1, b.2.1) := by
  unfold ahead KLt
  simp
theorem best_spec (L : List It) : ∀ k, 0 < k → k ≤ L.length → ∃ j : Nat, j < k ∧ bestI L k = (j : Int) ∧ ∀ i, i < k → ¬ KLt ((L.getD i (0, 0, 0)).1, (L.getD i (0, 0, 0)).2.1) ((L.getD j (0, 0, 0)).1, (L.getD j (0, 0, 0)).2.1)
  | 0, h, _ => absurd h (by omega)
  | 1, _, _ => ⟨0, by omega, rfl, fun i hi => by
    obtain rfl : i = 0 := by omega
    exact KLt.irr _⟩
  | k + 2, _, hk => by
    obtain ⟨j, hj, hb, hl⟩ := best_spec L (k + 1) (by omega) (by omega)
    by_cases ha : ahead (L.getD (k + 1) (0, 0, 0)) (L.getD j (0, 0, 0)) = true
    · refine ⟨k + 1, by omega, best_new hb ha, fun i hi => ?_⟩
      rw [ahead_iff] at ha
      by_cases e : i = k + 1
      · subst e
        exact KLt.irr _
      · intro h
        exact hl i (by omega) (h.trans ha)
    · have ha' : ahead (L.getD (k + 1) (0, 0, 0)) (L.getD j (0, 0, 0)) = false := by simpa using ha
      refine ⟨j, by omega, best_old hb ha', fun i hi => ?_⟩
      by_cases e : i = k + 1
      · subst e
        rw [← ahead_iff]
        exact ha
      · exact hl i (by omega)
theorem first_none {L : List It} (h : firstI L < 0) : L = [] := by
  cases L with
  | nil => rfl
  | cons x L =>
    obtain ⟨j, _, hb, _⟩ := best_spec (x :: L) (x :: L).length (by simp) (Nat.le_refl _)
    unfold firstI at h
    rw [hb] at h
    omega
theorem first_nil : firstI [] = -1 := rfl
/-- The least one of a row stands where First says. -/
theorem first_least {L : List It} {x : It} (hx : x ∈ L) (hl : Least L x) (ho : ∀ y ∈ L, y.2.1 = x.2.1 → y = x) : ∃ j : Nat, ∃ hj : j < L.length, firstI L = (j : Int) ∧ L[j] = x := by
  have h0 : 0 < L.length := List.length_pos_of_mem hx
  obtain ⟨j, hj, hb, hm⟩ := best_spec L L.length h0 (Nat.le_refl _)
  refine ⟨j, hj, hb, ?_⟩
  have hd : L.getD j (0, 0, 0) = L[j] := by simp [List.getD, hj]
  have h1 := hl _ (List.getElem_mem hj)
  obtain ⟨i, hi, hxi⟩ := List.mem_iff_getElem.1 hx
  have h2 := hm i hi
  rw [hd, show L.getD i (0, 0, 0) = x by simp [List.getD, hi, hxi]] at h2
  refine ho _ (List.getElem_mem hj) ?_
  unfold KLt at h1 h2
  simp only at h1 h2
  omega
theorem first_pop {L D'' : List It} {x : It} (hp : L.Perm (x :: D'')) (hl : Least L x) (ho : ∀ y ∈ L, y.2.1 = x.2.1 → y = x) : 0 ≤ firstI L ∧ firstI L < L.length ∧ takV L (firstI L) = x ∧ L.Perm (x :: takL L (firstI L)) := by
  obtain ⟨j, hj, e, hx⟩ := first_least (hp.mem_iff.2 (by simp)) hl ho
  rw [e]
  refine ⟨by omega, by omega, ?_, ?_⟩
  · rw [takV, if_neg (by omega), Int.toNat_natCast]
    simp [List.getD, hj, hx]
  · have := get_perm L j hj
    rw [hx] at this
    rw [takL, if_neg (by omega), Int.toNat_natCast]
    exact this
end Go.Proofs.Ythhdidcmiiglbaa
