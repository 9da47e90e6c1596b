/-
  The program's shapes of ops: shapeOf, Name, has; name, number, mark.
-/
import Derived.Test.YtmcfjlkjijaflaaDoorGR
namespace Go.Proofs.YtmcfjlkjijaflaaDoor
open Go.RowKit

/-- How many numbers ops of a kind have; what A and B may be. -/
def shN (k : Int) : Int := if 0 ≤ (limR k).1 then (if k = 5 then 2 else 1) else 0
def shA (k : Int) : Int × Int := if 0 ≤ (limR k).1 then limR k else (0, 0)
def shB (k : Int) : Int × Int := if k = 5 then (1, 64) else (0, 0)
abbrev shC (k : Int) : Array Value := #[.string ⟨(nameR k).toArray⟩, .int .i64 (shN k), .int .i64 (shA k).1, .int .i64 (shA k).2, .int .i64 (shB k).1, .int .i64 (shB k).2]
theorem results_one {fn : Func} {p : Tmp} {ty : TypeId} (h : fn.results = #[.cell p ty]) (tmps : Array Value) (P : Program) (w : World) :
    (results fn tmps).run P w = ((asAddr (tmps.getD p undef)).run P w).andThen fun a w₁ => (loadVar ty a).run P w₁ := by
  simp only [results, h]
  simp [Sem.run_bind, Result.andThen]
theorem word_res {fn : Func} {p : Tmp} (hf : fn.results = #[.cell p 74]) {tmps : Array Value} {w : World} {B : Nat} {a b c d : Value} (hp : tmps.getD p undef = .pointer (some ⟨B, 0, none⟩)) (h : w.heap[B]? = some (.cells #[a, b, c, d] 74 (0, 0))) :
    (results fn tmps).run Tryd.prog w = .ok (.agg #[a, b, c, d]) w := by
  obtain ⟨h0, h1, h2, h3⟩ := word_cells h
  rw [results_one hf, hp]
  simp [loadVar, go_sem, h0, h1, h2, h3]
theorem six_cells {w : World} {B : Nat} {a b c d e f : Value} {t : TypeId} (h : w.heap[B]? = some (.cells #[a, b, c, d, e, f] t (0, 0))) :
    w.cell? ⟨B, 0, none⟩ = some a ∧ w.cell? ⟨B, 1, none⟩ = some b ∧ w.cell? ⟨B, 2, none⟩ = some c ∧ w.cell? ⟨B, 3, none⟩ = some d ∧ w.cell? ⟨B, 4, none⟩ = some e ∧ w.cell? ⟨B, 5, none⟩ = some f := by
  refine ⟨?_, ?_, ?_, ?_, ?_, ?_⟩ <;> simp [World.cell?, h]
theorem shape_res {fn : Func} {p : Tmp} (hf : fn.results = #[.cell p 83]) {tmps : Array Value} {w : World} {B : Nat} {a b c d e f : Value} (hp : tmps.getD p undef = .pointer (some ⟨B, 0, none⟩)) (h : w.heap[B]? = some (.cells #[a, b, c, d, e, f] 83 (0, 0))) :
    (results fn tmps).run Tryd.prog w = .ok (.agg #[a, b, c, d, e, f]) w := by
  obtain ⟨h0, h1, h2, h3, h4, h5⟩ := six_cells h
  rw [results_one hf, hp]
  simp [loadVar, go_sem, h0, h1, h2, h3, h4, h5]
theorem pname_any (s : ByteArray) (w : World) : Calls Tryd.prog 38 #[.string s] w fun e w' => e = .returned (.agg #[.int .i64 1, .string s, .int .i64 0, .int .i64 0]) ∧ Below w.heap.size w w' := by
  have H := Lib.hid (heap_alloc_new w (.cells #[.int .i64 1, .string s, .int .i64 0, .int .i64 0] 74))
  go_enter Tryd.func38, Tryd.ntmps38
  go_wp2
  refine bodyPost_ret (word_res rfl rfl H.out) rfl ?_
  exact ⟨rfl, (Below.refl _ w).alloc (Nat.le_refl _) _⟩
theorem pmark_any (s : ByteArray) (w : World) : Calls Tryd.prog 39 #[.string s] w fun e w' => e = .returned (.agg #[.int .i64 3, .string s, .int .i64 0, .int .i64 0]) ∧ Below w.heap.size w w' := by
  have H := Lib.hid (heap_alloc_new w (.cells #[.int .i64 3, .string s, .int .i64 0, .int .i64 0] 74))
  go_enter Tryd.func39, Tryd.ntmps39
  go_wp2
  refine bodyPost_ret (word_res rfl rfl H.out) rfl ?_
  exact ⟨rfl, (Below.refl _ w).alloc (Nat.le_refl _) _⟩
theorem pnum_any (n : Int) (w : World) : Calls Tryd.prog 66 #[.int .i64 n] w fun e w' => e = .returned (.agg #[.int .i64 2, .string ⟨#[]⟩, .int .i64 n, .int .i64 0]) ∧ Below w.heap.size w w' := by
  have H := Lib.hid (heap_alloc_new w (.cells #[.int .i64 2, .string ⟨#[]⟩, .int .i64 n, .int .i64 0] 74))
  go_enter Tryd.func66, Tryd.ntmps66
  go_wp2
  refine bodyPost_ret (word_res rfl rfl H.out) rfl ?_
  exact ⟨rfl, (Below.refl _ w).alloc (Nat.le_refl _) _⟩
theorem has_any (lo hi n : Int) (w : World) : Calls Tryd.prog 67 #[.agg #[.int .i64 lo, .int .i64 hi], .int .i64 n] w fun e w' => e = .returned (.bool (decide (lo ≤ n) && decide (n ≤ hi))) ∧ Below w.heap.size w w' := by
  by_cases h : lo ≤ n
  · rw [decide_eq_true h, Bool.true_and]
    go_enter Tryd.func67, Tryd.ntmps67
    go_wp2
    go_ret
    exact ⟨rfl, (Below.refl _ w).alloc (Nat.le_refl _) _⟩
  · rw [decide_eq_false h, Bool.false_and]
    go_enter Tryd.func67, Tryd.ntmps67
    go_wp2
    go_ret
    exact ⟨rfl, (Below.refl _ w).alloc (Nat.le_refl _) _⟩
def ShapeP (k : Int) (w : World) (e : Ending) (w' : World) : Prop := e = .returned (.agg (shC k)) ∧ Below w.heap.size w w'
theorem shape_fin {k : Int} {w w' : World} {c : Array Value} (hc : c = shC k) (hb : Below w.heap.size w w') : ShapeP k w (.returned (.agg c)) w' := ⟨by rw [hc], hb⟩
theorem shape_facts (w : World) (u0 u1 u2 u3 u4 u5 : Value) (v0 v1 : Value) :
    ((w.alloc (.cells #[u0, u1, u2, u3, u4, u5] 83)).alloc (.cells #[v0, v1] 81)).heap[w.heap.size]? = some (.cells #[u0, u1, u2, u3, u4, u5] 83 (0, 0)) ∧
    Below w.heap.size w ((w.alloc (.cells #[u0, u1, u2, u3, u4, u5] 83)).alloc (.cells #[v0, v1] 81)) :=
  ⟨(Below.heap_alloc _ _ _ (by simp)).trans (heap_alloc_new w _), ((Below.refl _ w).alloc (Nat.le_refl _) _).alloc (by simp) _⟩
set_option maxHeartbeats 12800000 in
theorem shape_in (k : Int) (h0 : 1 ≤ k) (h1 : k ≤ 11) (w : World) : Calls Tryd.prog 44 #[.int .i64 k] w (ShapeP k w) := by
  have : k = 1 ∨ k = 2 ∨ k = 3 ∨ k = 4 ∨ k = 5 ∨ k = 6 ∨ k = 7 ∨ k = 8 ∨ k = 9 ∨ k = 10 ∨ k = 11 := by omega
  rcases this with h | h | h | h | h | h | h | h | h | h | h <;> subst h <;>
  · go_enter Tryd.func44, Tryd.ntmps44
    go_wp2
    refine bodyPost_ret (shape_res rfl rfl (shape_facts w _ _ _ _ _ _ _ _).1) rfl ?_
    exact shape_fin rfl (shape_facts w _ _ _ _ _ _ _ _).2
theorem shape_none {k : Int} (h : k < 1 ∨ 11 < k) : shC k = #[.string ⟨#[]⟩, .int .i64 0, .int .i64 0, .int .i64 0, .int .i64 0, .int .i64 0] := by
  have hn : nameR k = [] := by
    unfold nameR
    split
    · have : k = 0 := by omega
      subst this
      rfl
    · rfl
  have hl : limR k = (-1, -1) := by
    unfold limR
    rw [if_neg (by omega), if_neg (by omega), if_neg (by omega), if_neg (by omega)]
  have h5 : ¬ k = 5 := by omega
  simp only [shC, hn, shN, shA, shB, hl, if_neg h5]
  rfl
set_option maxHeartbeats 12800000 in
theorem shape_out (k : Int) (h : k < 1 ∨ 11 < k) (w : World) : Calls Tryd.prog 44 #[.int .i64 k] w (ShapeP k w) := by
  have h1 : (k == 1) = false := by simp; omega
  have h2 : (k == 2) = false := by simp; omega
  have h3 : (k == 3) = false := by simp; omega
  have h4 : (k == 4) = false := by simp; omega
  have h5 : (k == 5) = false := by simp; omega
  have h6 : (k == 6) = false := by simp; omega
  have h7 : (k == 7) = false := by simp; omega
  have h8 : (k == 8) = false := by simp; omega
  have h9 : (k == 9) = false := by simp; omega
  have h10 : (k == 10) = false := by simp; omega
  have h11 : (k == 11) = false := by simp; omega
  have HN := Lib.hid (shape_none h)
  clear h
  go_enter Tryd.func44, Tryd.ntmps44
  go_wp2
  refine bodyPost_ret (shape_res rfl rfl (shape_facts w _ _ _ _ _ _ _ _).1) rfl ?_
  exact shape_fin HN.out.symm (shape_facts w _ _ _ _ _ _ _ _).2
/-- The shape of ops of any kind. -/
theorem shape_any (k : Int) (w : World) : Calls Tryd.prog 44 #[.int .i64 k] w fun e w' => e = .returned (.agg (shC k)) ∧ Below w.heap.size w w' := by
  by_cases h : 1 ≤ k ∧ k ≤ 11
  · exact shape_in k h.1 h.2 w
  · exact shape_out k (by omega) w
end Go.Proofs.YtmcfjlkjijaflaaDoor
