/-
  Ops and programs as values, in cells, in rows.
-/
import Derived.Test.YtmcfjlkjijaflaaTkWd
import Derived.Test.YtmcfjlkjijaflaaPgMath
namespace Go.Proofs.Ytmcfjlkjijaflaa
open Go.RowKit

/-- An op as a value; its cells; those of many. -/
def opC (o : Opn) : List Value := [.int .i64 o.1, .int .i64 o.2.1, .int .i64 o.2.2]
def opV (o : Opn) : Value := .agg #[.int .i64 o.1, .int .i64 o.2.1, .int .i64 o.2.2]
abbrev opsC (L : List Opn) : List Value := L.flatMap opC
theorem opC_len (x : Opn) : (opC x).length = 3 := rfl
theorem opsC_len : ∀ L : List Opn, (opsC L).length = L.length * 3
  | [] => rfl
  | x :: L => by
    have := opsC_len L
    simp only [opsC, List.flatMap_cons, List.length_append, opC_len, List.length_cons] at this ⊢
    omega
theorem opsC_get : ∀ (L : List Opn) (j i : Nat) (hj : j < L.length), i < 3 → (opsC L)[j * 3 + i]? = (opC L[j])[i]?
  | x :: L, 0, i, _, hi => by
    simp only [opsC, List.flatMap_cons, Nat.zero_mul, Nat.zero_add, List.getElem_cons_zero]
    rw [List.getElem?_append_left (by rw [opC_len]; exact hi)]
  | x :: L, j + 1, i, hj, hi => by
    have ih := opsC_get L j i (by simpa using hj) hi
    have e : (j + 1) * 3 + i = (opC x).length + (j * 3 + i) := by rw [opC_len]; omega
    simp only [opsC, List.flatMap_cons, List.getElem_cons_succ] at ih ⊢
    rw [e, List.getElem?_append_right (by omega), Nat.add_sub_cancel_left]
    exact ih
theorem opsC_snoc (L : List Opn) (x : Opn) : opsC (L ++ [x]) = opsC L ++ opC x := by simp [opsC]
/-- A row of ops. -/
abbrev ORow (base : Nat) (w : World) (v : Value) (L : List Opn) : Prop := w.ownsRow base 38 3 v L.length (opsC L)
theorem row_op {base : Nat} {w : World} {g n cap : Nat} {L : List Opn} (h : ORow base w (.slice (some ⟨g, 0, none⟩) n cap) L) (j : Nat) (hj : j < L.length) :
    w.cell? ⟨g, j * 3, none⟩ = some (.int .i64 L[j].1) ∧ w.cell? ⟨g, j * 3 + 1, none⟩ = some (.int .i64 L[j].2.1) ∧ w.cell? ⟨g, j * 3 + 2, none⟩ = some (.int .i64 L[j].2.2) := by
  obtain ⟨_, _, h1, _⟩ := ownsRow_shape h
  simp only [Value.slice.injEq] at h1
  obtain ⟨_, rfl, _⟩ := h1
  refine ⟨?_, ?_, ?_⟩
  · rw [h.cellAt _ (by omega)]; exact opsC_get L j 0 hj (by omega)
  · rw [h.cellAt _ (by omega)]; exact opsC_get L j 1 hj (by omega)
  · rw [h.cellAt _ (by omega)]; exact opsC_get L j 2 hj (by omega)
theorem op_info : (Try.prog.info? 38).map (fun i => (i.zero, i.size, i.bytes)) = some (some (.agg #[.int .i64 0, .int .i64 0, .int .i64 0]), 3, 24) := by kernel_rfl
/-- A slice of ops, as it is read. -/
structure OArg (w : World) (ao : Option Addr) (b off : Nat) (L : List Opn) : Prop where
  at_ : 0 < L.length → ao = some ⟨b, off, none⟩ ∧ b < w.heap.size
  cells : ∀ i (hi : i < L.length), w.cell? ⟨b, off + i * 3, none⟩ = some (.int .i64 L[i].1) ∧ w.cell? ⟨b, off + i * 3 + 1, none⟩ = some (.int .i64 L[i].2.1) ∧ w.cell? ⟨b, off + i * 3 + 2, none⟩ = some (.int .i64 L[i].2.2)
theorem OArg.below {w w' : World} {ao : Option Addr} {b off : Nat} {L : List Opn} (h : OArg w ao b off L) (hb : Below w.heap.size w w') : OArg w' ao b off L := by
  refine ⟨fun h0 => ⟨(h.at_ h0).1, Nat.lt_of_lt_of_le (h.at_ h0).2 hb.size⟩, fun i hi => ?_⟩
  have hl := (h.at_ (by omega)).2
  obtain ⟨h0, h1, h2⟩ := h.cells i hi
  exact ⟨(hb.cell (p := ⟨b, off + i * 3, none⟩) hl).trans h0, (hb.cell (p := ⟨b, off + i * 3 + 1, none⟩) hl).trans h1, (hb.cell (p := ⟨b, off + i * 3 + 2, none⟩) hl).trans h2⟩
theorem OArg.of_row {base : Nat} {w : World} {v : Value} {L : List Opn} (h : ORow base w v L) : ∃ ao b cap, v = .slice ao L.length cap ∧ OArg w ao b 0 L := by
  by_cases h0 : 0 < L.length
  · obtain ⟨g, cap, rfl, _, _⟩ := ownsRow_pos h h0
    refine ⟨_, g, cap, rfl, fun _ => ⟨rfl, (h.lt g (by simp [Value.ownBlock])).2⟩, fun i hi => ?_⟩
    have hr := row_op h i hi
    simpa using hr
  · obtain ⟨a, cap, rfl, _, _⟩ := ownsRow_shape h
    exact ⟨a, 0, cap, rfl, fun h => absurd h h0, fun i hi => by omega⟩
/-- A program as it is read. -/
abbrev prgV (f : Bool) (ao : Option Addr) (n cap : Nat) : Value := .agg #[.bool f, .slice ao n cap]
end Go.Proofs.Ytmcfjlkjijaflaa
