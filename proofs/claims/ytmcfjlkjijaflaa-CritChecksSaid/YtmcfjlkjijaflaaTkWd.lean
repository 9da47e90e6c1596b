/-
  Words as values, in cells, in rows; what Scan and Join answer.
-/
import Derived.Test.YtmcfjlkjijaflaaTkStr
namespace Go.Proofs.Ytmcfjlkjijaflaa
open Go.RowKit

/-- A word as a value; its cells. -/
def wdC (w : Wd) : List Value := [.int .i64 w.1, .string ⟨w.2.1.toArray⟩, .int .i64 w.2.2.1, .int .i64 w.2.2.2]
def wdV (w : Wd) : Value := .agg #[.int .i64 w.1, .string ⟨w.2.1.toArray⟩, .int .i64 w.2.2.1, .int .i64 w.2.2.2]
theorem word_cells {w : World} {B : Nat} {a b c d : Value} {t : TypeId} (h : w.heap[B]? = some (.cells #[a, b, c, d] t (0, 0))) :
    w.cell? ⟨B, 0, none⟩ = some a ∧ w.cell? ⟨B, 1, none⟩ = some b ∧ w.cell? ⟨B, 2, none⟩ = some c ∧ w.cell? ⟨B, 3, none⟩ = some d := by
  refine ⟨?_, ?_, ?_, ?_⟩ <;> simp [World.cell?, h]
theorem word_stored {w : World} {B : Nat} {a b c d a' b' c' d' : Value} {t : TypeId} (h : w.heap[B]? = some (.cells #[a, b, c, d] t (0, 0))) :
    ((((w.setCell ⟨B, 0, none⟩ a').setCell ⟨B, 1, none⟩ b').setCell ⟨B, 2, none⟩ c').setCell ⟨B, 3, none⟩ d').heap[B]? = some (.cells #[a', b', c', d'] t (0, 0)) := by
  rw [heap_setCell_same _ _ _ _ _ _ (heap_setCell_same _ _ _ _ _ _ (heap_setCell_same _ _ _ _ _ _ (heap_setCell_same _ _ _ _ _ _ h)))]
  rfl
theorem results_cell_tmp2 {fn : Func} {p u v : Tmp} {ty : TypeId} (h : fn.results = #[.cell p ty, .tmp u, .tmp v]) (tmps : Array Value) (P : Program) (w : World) :
    (results fn tmps).run P w =
      ((asAddr (tmps.getD p undef)).run P w).andThen fun a w₁ => ((loadVar ty a).run P w₁).andThen fun x w₂ => .ok (.tuple #[x, tmps.getD u undef, tmps.getD v undef]) w₂ := by
  simp only [results, h]
  simp [Sem.run_bind, Result.andThen]
theorem word_below {w w2 : World} {B : Nat} (hb : Below w.heap.size w w2) (hB : w.heap.size ≤ B) (a b c d : Value) :
    Below w.heap.size w ((((w2.setCell ⟨B, 0, none⟩ a).setCell ⟨B, 1, none⟩ b).setCell ⟨B, 2, none⟩ c).setCell ⟨B, 3, none⟩ d) :=
  (((hb.setCell hB _).setCell hB _).setCell hB _).setCell hB _
theorem wdC_len (x : Wd) : (wdC x).length = 4 := rfl
abbrev wdsC (L : List Wd) : List Value := L.flatMap wdC
theorem wdsC_len : ∀ L : List Wd, (wdsC L).length = L.length * 4
  | [] => rfl
  | x :: L => by
    have := wdsC_len L
    simp only [wdsC, List.flatMap_cons, List.length_append, wdC_len, List.length_cons] at this ⊢
    omega
theorem wdsC_get : ∀ (L : List Wd) (j i : Nat) (hj : j < L.length), i < 4 → (wdsC L)[j * 4 + i]? = (wdC L[j])[i]?
  | x :: L, 0, i, _, hi => by
    simp only [wdsC, List.flatMap_cons, Nat.zero_mul, Nat.zero_add, List.getElem_cons_zero]
    rw [List.getElem?_append_left (by rw [wdC_len]; exact hi)]
  | x :: L, j + 1, i, hj, hi => by
    have ih := wdsC_get L j i (by simpa using hj) hi
    have e : (j + 1) * 4 + i = (wdC x).length + (j * 4 + i) := by rw [wdC_len]; omega
    simp only [wdsC, List.flatMap_cons, List.getElem_cons_succ] at ih ⊢
    rw [e, List.getElem?_append_right (by omega), Nat.add_sub_cancel_left]
    exact ih
theorem wdsC_snoc (L : List Wd) (x : Wd) : wdsC (L ++ [x]) = wdsC L ++ wdC x := by simp [wdsC]
theorem word_new (W : World) (a b c d : Value) (t : TypeId) : ∀ (j : Nat) (u : Value), [a, b, c, d][j]? = some u → (W.alloc (.cells #[a, b, c, d] t)).cell? ((⟨W.heap.size, 0, none⟩ : Addr).add j) = some u := by
  intro j u hj
  rw [Addr.add_lit]
  match j, hj with
  | 0, hj => simp at hj; subst hj; simp
  | 1, hj => simp at hj; subst hj; simp
  | 2, hj => simp at hj; subst hj; simp
  | 3, hj => simp at hj; subst hj; simp
/-- A slice of words, as it is read. -/
structure WArg (w : World) (ao : Option Addr) (b off : Nat) (L : List Wd) : Prop where
  at_ : 0 < L.length → ao = some ⟨b, off, none⟩ ∧ b < w.heap.size
  cells : ∀ i (hi : i < L.length), w.cell? ⟨b, off + i * 4, none⟩ = some (.int .i64 L[i].1) ∧ w.cell? ⟨b, off + i * 4 + 1, none⟩ = some (.string ⟨L[i].2.1.toArray⟩) ∧ w.cell? ⟨b, off + i * 4 + 2, none⟩ = some (.int .i64 L[i].2.2.1) ∧ w.cell? ⟨b, off + i * 4 + 3, none⟩ = some (.int .i64 L[i].2.2.2)
theorem WArg.below {w w' : World} {ao : Option Addr} {b off : Nat} {L : List Wd} (h : WArg w ao b off L) (hb : Below w.heap.size w w') : WArg w' ao b off L := by
  refine ⟨fun h0 => ⟨(h.at_ h0).1, Nat.lt_of_lt_of_le (h.at_ h0).2 hb.size⟩, fun i hi => ?_⟩
  have hl := (h.at_ (by omega)).2
  obtain ⟨h0, h1, h2, h3⟩ := h.cells i hi
  exact ⟨(hb.cell (p := ⟨b, off + i * 4, none⟩) hl).trans h0, (hb.cell (p := ⟨b, off + i * 4 + 1, none⟩) hl).trans h1, (hb.cell (p := ⟨b, off + i * 4 + 2, none⟩) hl).trans h2, (hb.cell (p := ⟨b, off + i * 4 + 3, none⟩) hl).trans h3⟩
theorem textR_len {x : Wd} {s : List By} (h : textR x = some s) (hx : x.2.1.length ≤ 40) : s.length ≤ 40 := by
  unfold textR at h
  split at h
  · split at h
    · next hc =>
      obtain ⟨_, h0, h9⟩ := hc
      simp only [Option.some.injEq] at h
      rw [← h]
      have := digits_len 8 x.2.2.1.toNat (by omega)
      omega
    · cases h
  · split at h
    · cases h
    · split at h
      · cases h
      · next c t e =>
        split at h
        · simp only [Option.some.injEq] at h
          rw [← h, ← e]
          exact hx
        · cases h
/-- What add makes of a text. -/
def addR (out s : List By) : List By := (if out ≠ [] ∧ s ≠ [59] then out ++ [32] else out) ++ s
theorem addR_len (out s : List By) : (addR out s).length ≤ out.length + s.length + 1 := by
  unfold addR
  split <;> simp <;> omega
theorem joinF_cons (x : Wd) (L : List Wd) (out : List By) : joinF (x :: L) out = match textR x with | some s => joinF L (addR out s) | none => none := rfl
def JoinPost (L : List Wd) (w : World) (e : Ending) (w' : World) : Prop := e = .returned (.tuple #[.string ⟨(joinA L).1.toArray⟩, .int .i64 (joinA L).2]) ∧ Below w.heap.size w w'
theorem join_none {L : List Wd} (h : joinF L [] = none) {w w' : World} (hb : Below w.heap.size w w') : JoinPost L w (.returned (.tuple #[.string ⟨#[]⟩, .int .i64 1])) w' := by
  unfold JoinPost joinA
  rw [h]
  exact ⟨rfl, hb⟩
theorem join_some {L : List Wd} {out : List By} (h : joinF L [] = some out) (hl : out.length ≤ 8000) {w w' : World} (hb : Below w.heap.size w w') : JoinPost L w (.returned (.tuple #[.string ⟨out.toArray⟩, .int .i64 0])) w' := by
  unfold JoinPost joinA
  rw [h]
  simp only
  rw [if_neg (by omega)]
  exact ⟨rfl, hb⟩
end Go.Proofs.Ytmcfjlkjijaflaa
