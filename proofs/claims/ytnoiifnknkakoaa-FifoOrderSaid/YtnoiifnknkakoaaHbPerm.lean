/-
  Rows of items in any order: one taken out, one set; numbers that are apart. No program.
-/
import Derived.Test.YtnoiifnknkakoaaHbMath
namespace Go.Proofs.Ytnoiifnknkakoaa

section
variable {α : Type}
theorem get_perm : ∀ (L : List α) (j : Nat) (h : j < L.length), L.Perm (L[j] :: L.eraseIdx j)
  | x :: L, 0, _ => List.Perm.refl _
  | x :: L, j + 1, h => ((get_perm L j (by simpa using h)).cons x).trans (List.Perm.swap _ _ _)
theorem set_perm' : ∀ (L : List α) (j : Nat) (y : α), j < L.length → (L.set j y).Perm (y :: L.eraseIdx j)
  | x :: L, 0, y, _ => List.Perm.refl _
  | x :: L, j + 1, y, h => ((set_perm' L j y (by simpa using h)).cons x).trans (List.Perm.swap _ _ _)
/-- Two rows of the same ones: of either one is taken. -/
theorem erase_perm {L D : List α} (p : L.Perm D) {j k : Nat} (hj : j < L.length) (hk : k < D.length) (e : L[j] = D[k]) : (L.eraseIdx j).Perm (D.eraseIdx k) := by
  have h := ((get_perm L j hj).symm.trans p).trans (get_perm D k hk)
  rw [e] at h
  exact h.cons_inv
/-- .. one is set. -/
theorem setBoth_perm {L D : List α} (p : L.Perm D) {j k : Nat} (hj : j < L.length) (hk : k < D.length) (e : L[j] = D[k]) (y : α) : (L.set j y).Perm (D.set k y) :=
  ((set_perm' L j y hj).trans ((erase_perm p hj hk e).cons y)).trans (set_perm' D k y hk).symm
end

section
variable {α : Type}
theorem HoleOk.len {it : Hm α} {M L : List (Hm α)} {h : Nat} {f : Int → Option Int} (o : HoleOk it M L h f) : L.length = M.length := by
  have := o.perm.length_eq
  simpa using this
theorem HoleOk.mem {it : Hm α} {M L : List (Hm α)} {h : Nat} {f : Int → Option Int} (o : HoleOk it M L h f) {j : Nat} (hj : j < L.length) (hne : j ≠ h) : L[j] ∈ M := by
  have e : (L.set h it)[j]'(by simpa using hj) = L[j] := by rw [List.getElem_set, if_neg (Ne.symm hne)]
  have : (L.set h it)[j]'(by simpa using hj) ∈ L.set h it := List.getElem_mem _
  rw [e] at this
  exact o.perm.mem_iff.1 this
theorem HeapOk.trans {M M' L : List (Hm α)} {f : Int → Option Int} (o : HeapOk M L f) (h : M.Perm M') : HeapOk M' L f := ⟨o.ord, o.place, o.perm.trans h⟩

/-- Of two items by one number there is but one. -/
theorem PlaceOk.one {D L : List (Hm α)} {f : Int → Option Int} (o : HeapOk D L f) {x y : Hm α} (hx : x ∈ D) (hy : y ∈ D) (e : x.2.1 = y.2.1) : x = y := by
  obtain ⟨i, hi, rfl⟩ := List.mem_iff_getElem.1 (o.perm.mem_iff.2 hx)
  obtain ⟨j, hj, rfl⟩ := List.mem_iff_getElem.1 (o.perm.mem_iff.2 hy)
  have := o.place.inj hi hj e
  subst this
  rfl
theorem HeapOk.some_of {D L : List (Hm α)} {f : Int → Option Int} (o : HeapOk D L f) {x : Hm α} (hx : x ∈ D) : ∃ j : Nat, ∃ hj : j < L.length, f x.2.1 = some (j : Int) ∧ L[j] = x := by
  obtain ⟨j, hj, rfl⟩ := List.mem_iff_getElem.1 (o.perm.mem_iff.2 hx)
  exact ⟨j, hj, o.place.at_ j hj, rfl⟩
theorem HeapOk.none_of {D L : List (Hm α)} {f : Int → Option Int} (o : HeapOk D L f) {i : Int} (h : ∀ x ∈ D, x.2.1 ≠ i) : f i = none := by
  cases hf : f i with
  | none => rfl
  | some v =>
    obtain ⟨j, hj, e⟩ := o.place.all i v hf
    exact absurd e (h _ (o.perm.mem_iff.1 (List.getElem_mem hj)))
theorem HeapOk.top {D L : List (Hm α)} {f : Int → Option Int} (o : HeapOk D L f) (h : 0 < L.length) : L[0] ∈ D ∧ ∀ y ∈ D, ¬ KLt (y.1, y.2.1) (L[0].1, L[0].2.1) := by
  refine ⟨o.perm.mem_iff.1 (List.getElem_mem h), fun y hy => ?_⟩
  obtain ⟨j, hj, rfl⟩ := List.mem_iff_getElem.1 (o.perm.mem_iff.2 hy)
  have := o.ord.least j hj
  rwa [keyN_at hj, keyN_at h] at this
/-- The numbers of D are apart. -/
def Apart (D : List (Hm α)) : Prop := ∀ x ∈ D, ∀ y ∈ D, x.2.1 = y.2.1 → x = y
end
end Go.Proofs.Ytnoiifnknkakoaa
