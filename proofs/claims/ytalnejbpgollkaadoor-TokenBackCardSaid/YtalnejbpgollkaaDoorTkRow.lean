/-
  Rows of words in memory; the program's clash.
-/
import Derived.Test.YtalnejbpgollkaaDoorArOwn
import Derived.Test.YtalnejbpgollkaaDoorTkScanM
import Derived.Test.YtalnejbpgollkaaDoorTkCut
import Derived.OwnWalk
import Derived.Laws.AppendOwn
import Derived.Laws.OwnMore
namespace Go.Proofs.YtalnejbpgollkaaDoor
open Go.RowKit

abbrev wdsC (L : List Wd) : List Value := L.flatMap wdC
theorem wdC_len (x : Wd) : (wdC x).length = 4 := rfl
theorem wdsC_len : ∀ L : List Wd, (wdsC L).length = L.length * 4
  | [] => rfl
  | x :: L => by
    have := wdsC_len L
    simp only [wdsC, List.flatMap_cons, List.length_append, wdC_len, List.length_cons] at this ⊢
    omega
theorem wdsC_get : ∀ (L : List Wd) (j i : Nat) (hj : j < L.length), i < 4 → (wdsC L)[j * 4 + i]? = (wdC L[j])[i]?
  | x :: L, 0, i, _, hi => by
    simp only [wdsC, List.flatMap_cons, Nat.zero_mul, Nat.zero_add, List.getElem_cons_zero]
    rw [List.getElem?_append_left (by rw [wdC_len]; exact hi)]
  | x :: L, j + 1, i, hj, hi => by
    have ih := wdsC_get L j i (by simpa using hj) hi
    have e : (j + 1) * 4 + i = (wdC x).length + (j * 4 + i) := by rw [wdC_len]; omega
    simp only [wdsC, List.flatMap_cons, List.getElem_cons_succ] at ih ⊢
    rw [e, List.getElem?_append_right (by omega), Nat.add_sub_cancel_left]
    exact ih
theorem wdsC_snoc (L : List Wd) (x : Wd) : wdsC (L ++ [x]) = wdsC L ++ wdC x := by simp [wdsC]
/-- A row of words. -/
abbrev WRow (base : Nat) (w : World) (v : Value) (L : List Wd) : Prop := w.ownsRow base 25 4 v L.length (wdsC L)
theorem row_below {w W : World} {base : Nat} {e : TypeId} {size : Nat} {v : Value} {n : Nat} {xs : List Value} (h : w.ownsRow base e size v n xs) (hb : Below w.heap.size w W) : W.ownsRow base e size v n xs :=
  ownsRow_same h fun k _ hk => hb.block k hk
/-- The cells of a word of a row. -/
theorem row_word {base : Nat} {w : World} {g n cap : Nat} {L : List Wd} (h : WRow base w (.slice (some ⟨g, 0, none⟩) n cap) L) (j : Nat) (hj : j < L.length) :
    w.cell? ⟨g, j * 4, none⟩ = some (.int .i64 L[j].1) ∧ w.cell? ⟨g, j * 4 + 1, none⟩ = some (.string ⟨L[j].2.1.toArray⟩) ∧ w.cell? ⟨g, j * 4 + 2, none⟩ = some (.int .i64 L[j].2.2.1) ∧ w.cell? ⟨g, j * 4 + 3, none⟩ = some (.int .i64 L[j].2.2.2) := by
  obtain ⟨_, _, h1, _⟩ := ownsRow_shape h
  simp only [Value.slice.injEq] at h1
  obtain ⟨_, rfl, _⟩ := h1
  refine ⟨?_, ?_, ?_, ?_⟩
  · rw [h.cellAt _ (by omega)]; exact wdsC_get L j 0 hj (by omega)
  · rw [h.cellAt _ (by omega)]; exact wdsC_get L j 1 hj (by omega)
  · rw [h.cellAt _ (by omega)]; exact wdsC_get L j 2 hj (by omega)
  · rw [h.cellAt _ (by omega)]; exact wdsC_get L j 3 hj (by omega)

set_option maxHeartbeats 400000 in
theorem clash_nil (a : Option Addr) (cap : Nat) (k m p : Int) (tx : ByteArray) (w : World) :
    Calls Tryd.prog 23 #[.slice a 0 cap, .agg #[.int .i64 k, .string tx, .int .i64 m, .int .i64 p]] w fun e w' => e = .returned (.bool false) ∧ Below w.heap.size w w' := by
  go_enter Tryd.func23, Tryd.ntmps23
  go_wp2
  go_ret
  exact ⟨rfl, (Below.refl _ _).alloc (Nat.le_refl _) _⟩
set_option maxHeartbeats 400000 in
theorem clash_at (g j cap : Nat) (q k m p : Int) (tx : ByteArray) (w : World) (hg : g < w.heap.size) (hj : j ≤ 8000) (hc : w.cell? ⟨g, j * 4, none⟩ = some (.int .i64 q)) :
    Calls Tryd.prog 23 #[.slice (some ⟨g, 0, none⟩) (j + 1) cap, .agg #[.int .i64 k, .string tx, .int .i64 m, .int .i64 p]] w fun e w' => e = .returned (.bool ((q != 3) && (k != 3))) ∧ Below w.heap.size w w' := by
  cases hq : (q != 3)
  all_goals
    go_enter Tryd.func23, Tryd.ntmps23
    go_wp2
    go_ret
    exact ⟨rfl, (Below.refl _ _).alloc (Nat.le_refl _) _⟩
theorem ne3 (k : Int) : (k != 3) = !decide (k = 3) := by rw [Bool.eq_iff_iff]; simp
theorem clash_any {base : Nat} {w : World} {v : Value} {ws : List Wd} (h : WRow base w v ws) (hl : ws.length ≤ 8000) (k m p : Int) (tx : ByteArray) :
    Calls Tryd.prog 23 #[v, .agg #[.int .i64 k, .string tx, .int .i64 m, .int .i64 p]] w fun e w' => e = .returned (.bool (lastB ws && !decide (k = 3))) ∧ Below w.heap.size w w' := by
  rcases List.eq_nil_or_concat ws with rfl | ⟨ys, y, hws⟩
  · obtain ⟨a, cap, rfl, _⟩ := ownsRow_shape h
    rw [lastB_nil, Bool.false_and]
    exact clash_nil a cap k m p tx w
  · try rw [List.concat_eq_append] at hws
    subst hws
    simp only [List.length_append, List.length_cons, List.length_nil] at hl
    obtain ⟨g, cap, rfl, _, _⟩ := ownsRow_pos h (by simp)
    have hg := (h.lt g (by simp [Value.ownBlock])).2
    have hc := (row_word h ys.length (by simp)).1
    rw [List.getElem_concat_length rfl] at hc
    rw [lastB_snoc, ← ne3, ← ne3]
    have e : (ys ++ [y]).length = ys.length + 1 := by simp
    rw [e]
    exact clash_at g ys.length cap y.1 k m p tx w hg (by omega) hc
end Go.Proofs.YtalnejbpgollkaaDoor
