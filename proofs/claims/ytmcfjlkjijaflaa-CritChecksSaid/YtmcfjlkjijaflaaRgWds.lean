/-
  What Words answers; a row of words that grows.
-/
import Derived.Test.YtmcfjlkjijaflaaRgPrs
import Derived.Test.YtmcfjlkjijaflaaRgMayL
import Derived.Test.YtmcfjlkjijaflaaArAppAt
namespace Go.Proofs.Ytmcfjlkjijaflaa
open Go.RowKit

theorem word_ones (a : Int) (t : ByteArray) (c d : Int) : ∀ u ∈ [Value.int .i64 a, .string t, .int .i64 c, .int .i64 d], u.oneCell' = true := by
  intro u hu
  simp only [List.mem_cons, List.not_mem_nil, or_false] at hu
  rcases hu with rfl | rfl | rfl | rfl <;> rfl
theorem word_at {W : World} {g : Nat} (hg : W.heap.size = g) (a b c d : Value) (t : TypeId) : ∀ (j : Nat) (u : Value), [a, b, c, d][j]? = some u → (W.alloc (.cells #[a, b, c, d] t)).cell? ((⟨g, 0, none⟩ : Addr).add j) = some u := by
  subst hg
  exact word_new W a b c d t
def headR (f : Bool) : List Wd := (1, progB, 0, 0) :: ((if f then [(1, foreverB, 0, 0)] else []) ++ [(3, [123], 0, 0)])
theorem words_head (f : Bool) (L : List Opn) : wordsR (f, L) = headR f ++ L.flatMap opW ++ [(3, [125], 0, 0)] := by
  cases f <;> simp [wordsR, headR]
theorem take_next {L : List Opn} {i : Nat} (h : i < L.length) (pre : List Wd) : pre ++ (L.take (i + 1)).flatMap opW = pre ++ (L.take i).flatMap opW ++ opW L[i] := by
  have e : L.take (i + 1) = L.take i ++ [L[i]] := (List.take_append_getElem h).symm
  have e1 : [L[i]].flatMap opW = opW L[i] := by simp only [List.flatMap_cons, List.flatMap_nil, List.append_nil]
  rw [e, List.flatMap_append, e1, ← List.append_assoc]
end Go.Proofs.Ytmcfjlkjijaflaa
