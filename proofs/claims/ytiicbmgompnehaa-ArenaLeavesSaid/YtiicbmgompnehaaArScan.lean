/-
  The law's own count over what a loop hands it: plain lists. No program.
-/
import Derived.Test.YtiicbmgompnehaaArSeq
namespace Go.Proofs.Ytiicbmgompnehaa

/-- The first place from k on that is taken, or beyond all. -/
def skip (On : List Bool) (k : Nat) : Nat := k + ((On.drop k).takeWhile fun t => !t).length
theorem skip_far {On : List Bool} {k : Nat} (h : On.length ≤ k) : skip On k = k := by simp [skip, List.drop_eq_nil_of_le h]
theorem skip_on {On : List Bool} {k : Nat} (h : On[k]? = some true) : skip On k = k := by
  obtain ⟨hl, he⟩ := List.getElem?_eq_some_iff.1 h
  simp [skip, List.drop_eq_getElem_cons hl, he]
theorem skip_next {On : List Bool} {k : Nat} (h : On[k]? = some false) : skip On k = skip On (k + 1) := by
  obtain ⟨hl, he⟩ := List.getElem?_eq_some_iff.1 h
  simp only [skip, List.drop_eq_getElem_cons hl, he]
  simp
  omega
theorem skip_le (On : List Bool) (k : Nat) : k ≤ skip On k ∧ skip On k ≤ max k On.length := by
  unfold skip
  have h := (List.takeWhile_sublist (fun t : Bool => !t) (l := On.drop k)).length_le
  simp only [List.length_drop] at h
  omega
theorem skip_run {On : List Bool} : ∀ (d k : Nat), (∀ i, k ≤ i → i < k + d → On[i]? = some false) → skip On k = skip On (k + d)
  | 0, k, _ => rfl
  | d + 1, k, h => by
    rw [skip_next (h k (Nat.le_refl _) (by omega)), skip_run d (k + 1) (fun i h1 h2 => h i (by omega) (by omega))]
    congr 1
    omega

/-- Which places are taken. -/
def ons (S : List (Int × Bool)) : List Bool := S.map (·.2)
theorem ons_len (S : List (Int × Bool)) : (ons S).length = S.length := by simp [ons]
theorem ons_get {S : List (Int × Bool)} {i : Nat} {v : Int} {t : Bool} (h : S[i]? = some (v, t)) : (ons S)[i]? = some t := by simp [ons, h]

/-- One value that comes: where the count goes, and whether all was well. -/
def stepB (L : List Int) (On : List Bool) (st : Nat × Bool) (x : Nat × Int) : Nat × Bool :=
  (skip On st.1 + 1, st.2 && (decide (x.1 = skip On st.1) && decide (L[skip On st.1]? = some x.2)))
def scan (L : List Int) (On : List Bool) (pre : List (Nat × Int)) : Nat × Bool := pre.foldl (stepB L On) (0, true)
theorem scan_snoc (L : List Int) (On : List Bool) (pre : List (Nat × Int)) (x : Nat × Int) : scan L On (pre ++ [x]) = stepB L On (scan L On pre) x := by simp [scan]
theorem scan_le (L : List Int) (On : List Bool) : ∀ (n : Nat) (pre : List (Nat × Int)), pre.length = n → (scan L On pre).1 ≤ On.length + n
  | 0, pre, h => by
    obtain rfl := List.eq_nil_of_length_eq_zero h
    simp [scan]
  | n + 1, pre, h => by
    rcases List.eq_nil_or_concat pre with rfl | ⟨q, x, rfl⟩
    · simp at h
    · simp only [List.concat_eq_append] at h ⊢
      rw [scan_snoc]
      have h1 := scan_le L On n q (by simpa using h)
      have h2 := (skip_le On (scan L On q).1).2
      simp only [stepB]
      omega
theorem scan_items {S : List (Int × Bool)} {L : List Int} (hL : ∀ (i : Nat) (v : Int), S[i]? = some (v, true) → L[i]? = some v) : ∀ (j : Nat), j ≤ S.length →
    ∃ k, k ≤ j ∧ scan L (ons S) (items (S.take j)) = (k, true) ∧ ∀ i, k ≤ i → i < j → (ons S)[i]? = some false
  | 0, _ => ⟨0, Nat.le_refl _, by simp [items, itemsFrom, scan], fun i _ h => by omega⟩
  | j + 1, hj => by
    obtain ⟨k, hk, hs, hr⟩ := scan_items hL j (by omega)
    obtain ⟨⟨v, t⟩, hp⟩ : ∃ p, S[j]? = some p := ⟨_, List.getElem?_eq_getElem (by omega)⟩
    cases t with
    | false =>
      refine ⟨k, by omega, by rw [items_take_no hp]; exact hs, fun i h1 h2 => ?_⟩
      by_cases e : i = j
      · subst e
        exact ons_get hp
      · exact hr i h1 (by omega)
    | true =>
      have hsk : skip (ons S) k = j := by
        have := skip_run (On := ons S) (j - k) k (fun i h1 h2 => hr i h1 (by omega))
        rw [this, show k + (j - k) = j by omega]
        exact skip_on (ons_get hp)
      refine ⟨j + 1, Nat.le_refl _, ?_, fun i h1 h2 => by omega⟩
      rw [items_take_yes hp, scan_snoc, hs]
      simp [stepB, hsk, hL j v hp]
theorem scan_all {S : List (Int × Bool)} {L : List Int} (hL : ∀ (i : Nat) (v : Int), S[i]? = some (v, true) → L[i]? = some v) :
    ∃ k, k ≤ S.length ∧ scan L (ons S) (items S) = (k, true) ∧ skip (ons S) k = S.length := by
  obtain ⟨k, hk, hs, hr⟩ := scan_items hL S.length (Nat.le_refl _)
  rw [List.take_length] at hs
  refine ⟨k, hk, hs, ?_⟩
  have := skip_run (On := ons S) (S.length - k) k (fun i h1 h2 => hr i h1 (by omega))
  rw [this, show k + (S.length - k) = S.length by omega]
  exact skip_far (by rw [ons_len]; exact Nat.le_refl _)
end Go.Proofs.Ytiicbmgompnehaa
