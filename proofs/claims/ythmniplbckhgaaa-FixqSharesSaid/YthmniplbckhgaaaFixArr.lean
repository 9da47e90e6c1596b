/-
  An array of numbers of 64 bits, handed over by value: its cells.
-/
import Derived.Test.YthmniplbckhgaaaFixPost
namespace Go.Proofs.Ythmniplbckhgaaa
open Go.ChangeShapes Go.WideShapes Go.ChangeAt Go.RowKit

section
variable {H : Type} {enc : TypeId × Value → H} {P : Program} {w : World} {base : Nat} {spare : Nat → Bool} {held : Bool}
theorem open_words {r : Reach} {b0 : Nat} {t e : TypeId} {n : Nat} {v : Value} {d : DataW H} {p : List MemPlace} (ht : P.underlying t = some (.array n e)) (he : P.underlying e = some (.int .u64)) (hC : P.cellsOf t = n) (hE : P.cellsOf e = 1)
    (hv : Value.okWide P w r b0 t v) (h : DataW.Trod enc P w base spare held t v d p) :
    ∃ xs : List Int, xs.length = n ∧ v = .agg ⟨xs.map (Value.int .u64)⟩ ∧ d = .agg (xs.map fun x => DataW.lit (.int .u64 x)) ∧ p = [] ∧ ∀ x ∈ xs, Word x := by
  obtain ⟨cs, rfl, hsz⟩ : ∃ cs, v = .agg cs ∧ cs.size = P.cellsOf t := by
    have hv' := hv
    simp [Value.okWide, ht] at hv'
    obtain ⟨cs, h1, h2, _⟩ := hv'
    exact ⟨cs, h1, h2⟩
  obtain ⟨l⟩ := cs
  obtain ⟨fuel, hf⟩ := h
  obtain ⟨ys, m, _, hx, hlen, hyl, hg⟩ := DataW.trod_array ht hf
  have hl : l.length = n := by simpa [hC] using hsz
  have each : ∀ i, i < n → ∃ x : Int, l[i]? = some (.int .u64 x) ∧ ys[i]? = some (.lit (.int .u64 x), []) ∧ Word x := by
    intro i hi
    have hyi : ys[i]? = some (ys[i]'(by omega)) := List.getElem?_eq_getElem (by omega)
    have hli : l[i]? = some (l[i]'(by omega)) := List.getElem?_eq_getElem (by omega)
    have h1 := hg i hi
    rw [hE, hyi] at h1
    have hone : ((l.drop (i * 1)).take 1) = [l[i]'(by omega)] := by
      rw [Nat.mul_one, List.drop_eq_getElem_cons (by omega)]
      rfl
    have h2 : DataW.trod enc P w base spare held m e ((l.drop (i * 1)).take 1) = some (ys[i]'(by omega)) := h1
    rw [hone] at h2
    obtain ⟨x, hx1, hx2, hx3⟩ := DataW.trod_int he h2
    simp only [List.cons.injEq, and_true] at hx1
    exact ⟨x, by rw [hli, hx1], by rw [hyi, hx2], word_of_wf hx3⟩
  have whole : ∀ (k : Nat) (l' : List Value) (ys' : List (DataW H × List MemPlace)), l'.length = k → ys'.length = k → (∀ i, i < k → ∃ x : Int, l'[i]? = some (.int .u64 x) ∧ ys'[i]? = some (.lit (.int .u64 x), []) ∧ Word x) →
      ∃ xs : List Int, xs.length = k ∧ l' = xs.map (Value.int .u64) ∧ ys' = xs.map (fun x => (DataW.lit (.int .u64 x), [])) ∧ ∀ x ∈ xs, Word x := by
    intro k
    induction k with
    | zero =>
      intro l' ys' a b _
      exact ⟨[], rfl, List.length_eq_zero_iff.1 a, List.length_eq_zero_iff.1 b, fun x hx => by cases hx⟩
    | succ k ih =>
      intro l' ys' a b c
      match l', ys', a, b with
      | v0 :: l1, y0 :: ys1, a, b =>
        obtain ⟨x, c1, c2, c3⟩ := c 0 (by omega)
        simp only [List.getElem?_cons_zero, Option.some.injEq] at c1 c2
        obtain ⟨xs, d1, d2, d3, d4⟩ := ih l1 ys1 (by simpa using a) (by simpa using b) (fun i hi => by simpa using c (i + 1) (by omega))
        refine ⟨x :: xs, by simp [d1], by simp [c1, d2], by simp [c2, d3], ?_⟩
        intro z hz
        rcases List.mem_cons.1 hz with e | e
        · rw [e]; exact c3
        · exact d4 z e
  obtain ⟨xs, e1, e2, e3, e4⟩ := whole n l ys hl hyl each
  simp only [Prod.mk.injEq] at hx
  refine ⟨xs, e1, by rw [e2], ?_, ?_, e4⟩
  · rw [hx.1, e3, List.map_map]
    rfl
  · rw [hx.2, e3]
    clear hx e1 e2 e3 e4
    induction xs with
    | nil => rfl
    | cons z zs ih => simp
end
end Go.Proofs.Ythmniplbckhgaaa
