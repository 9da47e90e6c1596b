/-
  Two queues, and the document's two, side by side.
-/
import Derived.Test.YtnoiifnknkakoaaFqSame
import Derived.Test.YtnoiifnknkakoaaFqPour
namespace Go.Proofs.Ytnoiifnknkakoaa
open Go.RowKit Go.Maps

/-- A function of two places, turned at one. -/
def upd {β : Type} (f : Nat → β) (i : Nat) (v : β) : Nat → β := fun j => if j = i then v else f j
theorem upd_same {β : Type} (f : Nat → β) (i : Nat) (v : β) : upd f i v i = v := by simp [upd]
theorem upd_other {β : Type} {f : Nat → β} {i j : Nat} {v : β} (h : j ≠ i) : upd f i v j = f j := by simp [upd, h]

abbrev tPq : TypeId := 25
abbrev tPr : TypeId := 28
abbrev ptr (b : Nat) : Value := .pointer (some ⟨b, 0, none⟩)
/-- Blocks Q and R hold the queues' pointers; queue i has last ticket l i and items L i, the document's one l' i and L' i. -/
structure Duo (w0 w : World) (Q R : Nat) (a d : Nat → Nat) (m : Nat → Int) (X Y : Nat → List Nat) (l : Nat → Int) (L : Nat → List Ft) (l' : Nat → Int) (L' : Nat → List Ft) : Prop where
  q : ∀ i, i < 2 → QI w (a i) (X i) (m i) (l i) (L i)
  r : ∀ i, i < 2 → R5 w (d i) (Y i) (m i) (l' i) (L' i)
  xx : ∀ i j, i < 2 → j < 2 → i ≠ j → ∀ k ∈ X i, k ∉ X j
  yy : ∀ i j, i < 2 → j < 2 → i ≠ j → ∀ k ∈ Y i, k ∉ Y j
  xy : ∀ i j, i < 2 → j < 2 → ∀ k ∈ X i, k ∉ Y j
  nx : ∀ i, i < 2 → ∀ k ∈ X i, w0.heap.size ≤ k ∧ k ≠ Q ∧ k ≠ R
  ny : ∀ i, i < 2 → ∀ k ∈ Y i, w0.heap.size ≤ k ∧ k ≠ Q ∧ k ≠ R
  qc : w.heap[Q]? = some (.cells #[ptr (a 0), ptr (a 1)] tPq (0, 0))
  rc : w.heap[R]? = some (.cells #[ptr (d 0), ptr (d 1)] tPr (0, 0))
  t : Turned [] w0 w

section
variable {w0 w w' : World} {Q R : Nat} {a d : Nat → Nat} {m : Nat → Int} {X Y : Nat → List Nat} {l : Nat → Int} {L : Nat → List Ft} {l' : Nat → Int} {L' : Nat → List Ft} {i j : Nat}
theorem Duo.later (h : Duo w0 w Q R a d m X Y l L l' L') (t : Turned [] w w') : Duo w0 w' Q R a d m X Y l L l' L' :=
  ⟨fun i hi => (h.q i hi).keep0 t, fun i hi => LAt.keep (h.r i hi) t (by simp), h.xx, h.yy, h.xy, h.nx, h.ny, t.same h.qc (by simp), t.same h.rc (by simp), h.t.trans t (Newer.refl _ _)⟩
theorem Duo.stepQ (h : Duo w0 w Q R a d m X Y l L l' L') (hi : i < 2) {X' : List Nat} {l1 : Int} {L1 : List Ft} (q' : QI w' (a i) X' (m i) l1 L1) (t : Turned (X i) w w') (n : Newer (X i) w.heap.size X') :
    Duo w0 w' Q R a d m (upd X i X') Y (upd l i l1) (upd L i L1) l' L' := by
  have hx : ∀ k ∈ X', k ∈ X i ∨ w.heap.size ≤ k := n
  have ltX := fun j hj => (h.q j hj).lt
  have ltY := fun j hj => LAt.lt (h.r j hj)
  have hQ := lt_of_block h.qc
  have hR := lt_of_block h.rc
  refine ⟨fun j hj => ?_, fun j hj => LAt.keep (h.r j hj) t (fun k hk hx => h.xy i j hi hj k hx hk), fun j j' hj hj' hne k hk hk' => ?_, h.yy, fun j j' hj hj' k hk hk' => ?_, fun j hj k hk => ?_, h.ny, t.same h.qc (fun hx => (h.nx i hi _ hx).2.1 rfl), t.same h.rc (fun hx => (h.nx i hi _ hx).2.2 rfl), h.t.trans t (fun k hk => .inr (h.nx i hi k hk).1)⟩
  · by_cases e : j = i
    · subst e
      rw [upd_same, upd_same, upd_same]
      exact q'
    · rw [upd_other e, upd_other e, upd_other e]
      exact (h.q j hj).keep t (fun k hk hx => h.xx j i hj hi e k hk hx)
  · by_cases e : j = i
    · subst e
      rw [upd_same] at hk
      rw [upd_other (Ne.symm hne)] at hk'
      rcases hx k hk with g | g
      · exact h.xx j j' hj hj' hne k g hk'
      · have := ltX j' hj' k hk'
        omega
    · rw [upd_other e] at hk
      by_cases e' : j' = i
      · subst e'
        rw [upd_same] at hk'
        rcases hx k hk' with g | g
        · exact h.xx j j' hj hj' hne k hk g
        · have := ltX j hj k hk
          omega
      · rw [upd_other e'] at hk'
        exact h.xx j j' hj hj' hne k hk hk'
  · by_cases e : j = i
    · subst e
      rw [upd_same] at hk
      rcases hx k hk with g | g
      · exact h.xy j j' hj hj' k g hk'
      · have := ltY j' hj' k hk'
        omega
    · rw [upd_other e] at hk
      exact h.xy j j' hj hj' k hk hk'
  · by_cases e : j = i
    · subst e
      rw [upd_same] at hk
      rcases hx k hk with g | g
      · exact h.nx j hj k g
      · have := h.t.size
        exact ⟨by omega, by omega, by omega⟩
    · rw [upd_other e] at hk
      exact h.nx j hj k hk
theorem Duo.stepR (h : Duo w0 w Q R a d m X Y l L l' L') (hi : i < 2) {Y' : List Nat} {l1 : Int} {L1 : List Ft} (r' : R5 w' (d i) Y' (m i) l1 L1) (t : Turned (Y i) w w') (n : Newer (Y i) w.heap.size Y') :
    Duo w0 w' Q R a d m X (upd Y i Y') l L (upd l' i l1) (upd L' i L1) := by
  have hy : ∀ k ∈ Y', k ∈ Y i ∨ w.heap.size ≤ k := n
  have ltX := fun j hj => (h.q j hj).lt
  have ltY := fun j hj => LAt.lt (h.r j hj)
  have hQ := lt_of_block h.qc
  have hR := lt_of_block h.rc
  refine ⟨fun j hj => (h.q j hj).keep t (fun k hk hx => h.xy j i hj hi k hk hx), fun j hj => ?_, h.xx, fun j j' hj hj' hne k hk hk' => ?_, fun j j' hj hj' k hk hk' => ?_, h.nx, fun j hj k hk => ?_, t.same h.qc (fun hx => (h.ny i hi _ hx).2.1 rfl), t.same h.rc (fun hx => (h.ny i hi _ hx).2.2 rfl), h.t.trans t (fun k hk => .inr (h.ny i hi k hk).1)⟩
  · by_cases e : j = i
    · subst e
      rw [upd_same, upd_same, upd_same]
      exact r'
    · rw [upd_other e, upd_other e, upd_other e]
      exact LAt.keep (h.r j hj) t (fun k hk hx => h.yy j i hj hi e k hk hx)
  · by_cases e : j = i
    · subst e
      rw [upd_same] at hk
      rw [upd_other (Ne.symm hne)] at hk'
      rcases hy k hk with g | g
      · exact h.yy j j' hj hj' hne k g hk'
      · have := ltY j' hj' k hk'
        omega
    · rw [upd_other e] at hk
      by_cases e' : j' = i
      · subst e'
        rw [upd_same] at hk'
        rcases hy k hk' with g | g
        · exact h.yy j j' hj hj' hne k hk g
        · have := ltY j hj k hk
          omega
      · rw [upd_other e'] at hk'
        exact h.yy j j' hj hj' hne k hk hk'
  · by_cases e : j' = i
    · subst e
      rw [upd_same] at hk'
      rcases hy k hk' with g | g
      · exact h.xy j j' hj hj' k hk g
      · have := ltX j hj k hk
        omega
    · rw [upd_other e] at hk'
      exact h.xy j j' hj hj' k hk hk'
  · by_cases e : j = i
    · subst e
      rw [upd_same] at hk
      rcases hy k hk with g | g
      · exact h.ny j hj k g
      · have := h.t.size
        exact ⟨by omega, by omega, by omega⟩
    · rw [upd_other e] at hk
      exact h.ny j hj k hk
/-- One turned in two, a step at a time. -/
def two (i : Nat) {β : Type} (u v : β) : Nat → β := fun j => if j = i then u else v
theorem two_same {β : Type} (i : Nat) (u v : β) : two i u v i = u := by simp [two]
theorem two_other {β : Type} {i j : Nat} {u v : β} (h : j ≠ i) : two i u v j = v := by simp [two, h]
theorem Duo.pourQ (h : Duo w0 w Q R a d m X Y l L l' L') (hi : i < 2) (hj : j < 2) (hij : i ≠ j) {X1 X2 : List Nat} {l1 l2 : Int} {L1 L2 : List Ft} (q1 : QI w' (a i) X1 (m i) l1 L1) (q2 : QI w' (a j) X2 (m j) l2 L2) (hd : ∀ k ∈ X1, k ∉ X2) (t : Turned (X i ++ X j) w w') (n1 : Newer (X i) w.heap.size X1) (n2 : Newer (X j) w.heap.size X2) :
    Duo w0 w' Q R a d m (two i X1 X2) Y (two i l1 l2) (two i L1 L2) l' L' := by
  have only : ∀ k, k < 2 → k ≠ i → k = j := fun k hk hki => by omega
  have ltY := fun j hj => LAt.lt (h.r j hj)
  have hQ := lt_of_block h.qc
  have hR := lt_of_block h.rc
  have offY : ∀ j', j' < 2 → ∀ k ∈ Y j', k ∉ X i ++ X j := fun j' hj' k hk hx => by
    rcases List.mem_append.1 hx with g | g
    · exact h.xy i j' hi hj' k g hk
    · exact h.xy j j' hj hj' k g hk
  have new : ∀ p, p < 2 → ∀ k ∈ two i X1 X2 p, (w0.heap.size ≤ k ∧ k ≠ Q ∧ k ≠ R) ∧ ∀ j', j' < 2 → k ∉ Y j' := by
    intro p hp k hk
    by_cases e : p = i
    · subst e
      rw [two_same] at hk
      rcases n1 k hk with g | g
      · exact ⟨h.nx p hp k g, fun j' hj' hy => h.xy p j' hp hj' k g hy⟩
      · have := h.t.size
        exact ⟨⟨by omega, by omega, by omega⟩, fun j' hj' hy => by have := ltY j' hj' k hy; omega⟩
    · obtain rfl := only p hp e
      rw [two_other e] at hk
      rcases n2 k hk with g | g
      · exact ⟨h.nx p hp k g, fun j' hj' hy => h.xy p j' hp hj' k g hy⟩
      · have := h.t.size
        exact ⟨⟨by omega, by omega, by omega⟩, fun j' hj' hy => by have := ltY j' hj' k hy; omega⟩
  refine ⟨fun p hp => ?_, fun p hp => LAt.keep (h.r p hp) t (offY p hp), fun p p' hp hp' hne k hk hk' => ?_, h.yy, fun p j' hp hj' k hk => (new p hp k hk).2 j' hj', fun p hp k hk => (new p hp k hk).1, h.ny, t.same h.qc (fun hx => ?_), t.same h.rc (fun hx => ?_), h.t.trans t (fun k hk => ?_)⟩
  · by_cases e : p = i
    · subst e
      rw [two_same, two_same, two_same]
      exact q1
    · obtain rfl := only p hp e
      rw [two_other e, two_other e, two_other e]
      exact q2
  · by_cases e : p = i
    · subst e
      rw [two_same] at hk
      rw [two_other (Ne.symm hne)] at hk'
      exact hd k hk hk'
    · rw [two_other e] at hk
      have e' : p' = i := by
        have := only p hp e
        omega
      subst e'
      rw [two_same] at hk'
      exact hd k hk' hk
  · rcases List.mem_append.1 hx with g | g
    · exact (h.nx i hi _ g).2.1 rfl
    · exact (h.nx j hj _ g).2.1 rfl
  · rcases List.mem_append.1 hx with g | g
    · exact (h.nx i hi _ g).2.2 rfl
    · exact (h.nx j hj _ g).2.2 rfl
  · rcases List.mem_append.1 hk with g | g
    · exact .inr (h.nx i hi k g).1
    · exact .inr (h.nx j hj k g).1
theorem Duo.pourR (h : Duo w0 w Q R a d m X Y l L l' L') (hi : i < 2) (hj : j < 2) (hij : i ≠ j) {X1 X2 : List Nat} {l1 l2 : Int} {L1 L2 : List Ft} (q1 : R5 w' (d i) X1 (m i) l1 L1) (q2 : R5 w' (d j) X2 (m j) l2 L2) (hd : ∀ k ∈ X1, k ∉ X2) (t : Turned (Y i ++ Y j) w w') (n1 : Newer (Y i) w.heap.size X1) (n2 : Newer (Y j) w.heap.size X2) :
    Duo w0 w' Q R a d m X (two i X1 X2) l L (two i l1 l2) (two i L1 L2) := by
  have only : ∀ k, k < 2 → k ≠ i → k = j := fun k hk hki => by omega
  have ltX := fun j hj => (h.q j hj).lt
  have hQ := lt_of_block h.qc
  have hR := lt_of_block h.rc
  have offX : ∀ j', j' < 2 → ∀ k ∈ X j', k ∉ Y i ++ Y j := fun j' hj' k hk hx => by
    rcases List.mem_append.1 hx with g | g
    · exact h.xy j' i hj' hi k hk g
    · exact h.xy j' j hj' hj k hk g
  have new : ∀ p, p < 2 → ∀ k ∈ two i X1 X2 p, (w0.heap.size ≤ k ∧ k ≠ Q ∧ k ≠ R) ∧ ∀ j', j' < 2 → k ∉ X j' := by
    intro p hp k hk
    by_cases e : p = i
    · subst e
      rw [two_same] at hk
      rcases n1 k hk with g | g
      · exact ⟨h.ny p hp k g, fun j' hj' hy => h.xy j' p hj' hp k hy g⟩
      · have := h.t.size
        exact ⟨⟨by omega, by omega, by omega⟩, fun j' hj' hy => by have := ltX j' hj' k hy; omega⟩
    · obtain rfl := only p hp e
      rw [two_other e] at hk
      rcases n2 k hk with g | g
      · exact ⟨h.ny p hp k g, fun j' hj' hy => h.xy j' p hj' hp k hy g⟩
      · have := h.t.size
        exact ⟨⟨by omega, by omega, by omega⟩, fun j' hj' hy => by have := ltX j' hj' k hy; omega⟩
  refine ⟨fun p hp => (h.q p hp).keep t (offX p hp), fun p hp => ?_, h.xx, fun p p' hp hp' hne k hk hk' => ?_, fun j' p hj' hp k hk hk' => (new p hp k hk').2 j' hj' hk, h.nx, fun p hp k hk => (new p hp k hk).1, t.same h.qc (fun hx => ?_), t.same h.rc (fun hx => ?_), h.t.trans t (fun k hk => ?_)⟩
  · by_cases e : p = i
    · subst e
      rw [two_same, two_same, two_same]
      exact q1
    · obtain rfl := only p hp e
      rw [two_other e, two_other e, two_other e]
      exact q2
  · by_cases e : p = i
    · subst e
      rw [two_same] at hk
      rw [two_other (Ne.symm hne)] at hk'
      exact hd k hk hk'
    · rw [two_other e] at hk
      have e' : p' = i := by
        have := only p hp e
        omega
      subst e'
      rw [two_same] at hk'
      exact hd k hk' hk
  · rcases List.mem_append.1 hx with g | g
    · exact (h.ny i hi _ g).2.1 rfl
    · exact (h.ny j hj _ g).2.1 rfl
  · rcases List.mem_append.1 hx with g | g
    · exact (h.ny i hi _ g).2.2 rfl
    · exact (h.ny j hj _ g).2.2 rfl
  · rcases List.mem_append.1 hk with g | g
    · exact .inr (h.ny i hi k g).1
    · exact .inr (h.ny j hj k g).1
/-- The pointers. -/
theorem Duo.ptrs (h : Duo w0 w Q R a d m X Y l L l' L') (hi : i < 2) : w.cell? ⟨Q, i, none⟩ = some (ptr (a i)) ∧ w.cell? ⟨R, i, none⟩ = some (ptr (d i)) := by
  have hq := h.qc
  have hr := h.rc
  match i, hi with
  | 0, _ => exact ⟨by simp [World.cell?, hq], by simp [World.cell?, hr]⟩
  | 1, _ => exact ⟨by simp [World.cell?, hq], by simp [World.cell?, hr]⟩
end
end Go.Proofs.Ytnoiifnknkakoaa
