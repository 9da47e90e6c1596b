/-
  What Print answers; how long words are.
-/
import Derived.Test.YtmcfjlkjijaflaaDoorRgWds
namespace Go.Proofs.YtmcfjlkjijaflaaDoor
open Go.RowKit

/-- What Print answers. -/
def printR (p : Prg) : List By × Int := if mayR p then joinA (wordsR p) else ([], 1)
def PrintP (r : List By × Int) (w : World) (e : Ending) (w' : World) : Prop := e = .returned (.tuple #[.string ⟨r.1.toArray⟩, .int .i64 r.2]) ∧ Below w.heap.size w w'
theorem name_len (k : Int) : (nameR k).length ≤ 40 := by
  by_cases h : nameR k = []
  · rw [h]; decide
  · rcases name_kinds h with h | h | h | h | h | h | h | h | h | h | h <;> subst h <;> decide
theorem opW_len (o : Opn) : (opW o).length ≤ 4 := by
  unfold opW
  split <;> split <;> simp
theorem opW_short (o : Opn) : ∀ x ∈ opW o, x.2.1.length ≤ 40 := by
  intro x hx
  unfold opW at hx
  simp only [List.mem_cons, List.mem_append, List.not_mem_nil, or_false] at hx
  rcases hx with rfl | hx | hx | rfl
  · exact name_len _
  · split at hx
    · simp only [List.mem_cons, List.not_mem_nil, or_false] at hx; subst hx; exact Nat.zero_le _
    · simp at hx
  · split at hx
    · simp only [List.mem_cons, List.not_mem_nil, or_false] at hx; subst hx; exact Nat.zero_le _
    · simp at hx
  · decide
theorem opsW_len : ∀ L : List Opn, (L.flatMap opW).length ≤ L.length * 4
  | [] => Nat.le_refl _
  | o :: L => by
    have := opsW_len L
    have := opW_len o
    simp only [List.flatMap_cons, List.length_append, List.length_cons]
    omega
theorem words_len {p : Prg} (h : mayR p = true) : (wordsR p).length ≤ 60 := by
  obtain ⟨f, L⟩ := p
  simp only [mayR, Bool.and_eq_true, decide_eq_true_eq] at h
  have := opsW_len L
  rw [words_head]
  simp only [List.length_append, List.length_cons, List.length_nil]
  have : (headR f).length ≤ 3 := by cases f <;> decide
  omega
theorem words_short (p : Prg) : ∀ x ∈ wordsR p, x.2.1.length ≤ 40 := by
  obtain ⟨f, L⟩ := p
  intro x hx
  rw [words_head] at hx
  simp only [List.mem_append, List.mem_cons, List.not_mem_nil, or_false] at hx
  rcases hx with (hx | hx) | rfl
  · cases f <;> simp [headR] at hx
    · rcases hx with rfl | rfl <;> decide
    · rcases hx with rfl | rfl | rfl <;> decide
  · obtain ⟨o, _, ho⟩ := List.mem_flatMap.1 hx
    exact opW_short o x ho
  · decide
theorem may_le {f : Bool} {L : List Opn} (h : mayR (f, L) = true) : L.length ≤ 12 := by
  simp only [mayR, Bool.and_eq_true, decide_eq_true_eq] at h
  exact h.2.1
end Go.Proofs.YtmcfjlkjijaflaaDoor
