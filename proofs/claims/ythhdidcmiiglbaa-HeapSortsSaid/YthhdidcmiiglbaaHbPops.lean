/-
  What comes off a heap, one by one, as long as it is due. No program.
-/
import Derived.Test.YthhdidcmiiglbaaHbPerm
namespace Go.Proofs.Ythhdidcmiiglbaa

section
variable {α : Type}
/-- x is the one of D that is due first. -/
abbrev Least (D : List (Hm α)) (x : Hm α) : Prop := ∀ y ∈ D, ¬ KLt (y.1, y.2.1) (x.1, x.2.1)
/-- Of D the ones of xs come off, due at u or earlier, the first one first; D' is left. -/
inductive Pops (u : Int) (D : List (Hm α)) : List (Hm α) → List (Hm α) → Prop
  | none : Pops u D [] D
  | more {pre D' D'' : List (Hm α)} {x : Hm α} : Pops u D pre D' → D'.Perm (x :: D'') → Least D' x → x.1 ≤ u → Pops u D (pre ++ [x]) D''
theorem Pops.len {u : Int} {D xs D' : List (Hm α)} (h : Pops u D xs D') : D.length = xs.length + D'.length := by
  induction h with
  | none => simp
  | more _ p _ _ ih =>
    have := p.length_eq
    simp at this ⊢
    omega
theorem Pops.perm {u : Int} {D xs D' : List (Hm α)} (h : Pops u D xs D') : D.Perm (xs ++ D') := by
  induction h with
  | none => exact List.Perm.refl _
  | more _ p _ _ ih =>
    refine ih.trans ?_
    rw [List.append_assoc]
    exact p.append_left _
/-- The last one that came, taken back. -/
theorem Pops.split {u : Int} {D pre D'' : List (Hm α)} {x : Hm α} (h : Pops u D (pre ++ [x]) D'') : ∃ D', Pops u D pre D' ∧ D'.Perm (x :: D'') ∧ Least D' x ∧ x.1 ≤ u := by
  obtain ⟨zs, hz⟩ : ∃ zs, pre ++ [x] = zs := ⟨_, rfl⟩
  rw [hz] at h
  cases h with
  | none =>
    simp at hz
  | more h1 h2 h3 h4 =>
    obtain ⟨e1, e2⟩ := List.append_inj' hz rfl
    simp at e2
    subst e1 e2
    exact ⟨_, h1, h2, h3, h4⟩
/-- What is left behind a row of them is the same ones. -/
theorem Pops.left {u : Int} {D : List (Hm α)} : ∀ {xs A B : List (Hm α)}, Pops u D xs A → Pops u D xs B → A.Perm B := by
  intro xs A B h
  induction h generalizing B with
  | none =>
    intro g
    have := g.perm
    simpa using this
  | more h1 h2 h3 h4 ih =>
    intro g
    obtain ⟨D', g1, g2, _, _⟩ := g.split
    exact ((h2.symm.trans (ih g1)).trans g2).cons_inv
end
end Go.Proofs.Ythhdidcmiiglbaa
