/-
  The program's shapes of acts: shapeOf, Name, may.
-/
import Derived.Test.YtmcfjlkjijaflaaDoorPgOps
import Derived.Test.YtmcfjlkjijaflaaDoorAcRd
import Derived.Test.YtmcfjlkjijaflaaDoorGXA
namespace Go.Proofs.YtmcfjlkjijaflaaDoor
open Go.RowKit

abbrev ashC (k : Int) : Array Value := #[.string ⟨(acName k).toArray⟩, .int .i64 (acMany k : Nat)]
theorem ashape_res {fn : Func} {p : Tmp} (hf : fn.results = #[.cell p 104]) {tmps : Array Value} {w : World} {B : Nat} {a b : Value} (hp : tmps.getD p undef = .pointer (some ⟨B, 0, none⟩)) (h : w.heap[B]? = some (.cells #[a, b] 104 (0, 0))) :
    (results fn tmps).run Tryd.prog w = .ok (.agg #[a, b]) w := by
  obtain ⟨h0, h1⟩ := two_cells h
  rw [results_one hf, hp]
  simp [loadVar, go_sem, h0, h1]
def AShapeP (k : Int) (w : World) (e : Ending) (w' : World) : Prop := e = .returned (.agg (ashC k)) ∧ Below w.heap.size w w'
theorem ashape_fin {k : Int} {w w' : World} {c : Array Value} (hc : c = ashC k) (hb : Below w.heap.size w w') : AShapeP k w (.returned (.agg c)) w' := ⟨by rw [hc], hb⟩
theorem ashape_facts (w : World) (u0 u1 : Value) :
    (w.alloc (.cells #[u0, u1] 104)).heap[w.heap.size]? = some (.cells #[u0, u1] 104 (0, 0)) ∧ Below w.heap.size w (w.alloc (.cells #[u0, u1] 104)) :=
  ⟨heap_alloc_new w _, (Below.refl _ w).alloc (Nat.le_refl _) _⟩
set_option maxHeartbeats 12800000 in
theorem ashape_in (k : Int) (h0 : 1 ≤ k) (h1 : k ≤ 8) (w : World) : Calls Tryd.prog 59 #[.int .i64 k] w (AShapeP k w) := by
  have : k = 1 ∨ k = 2 ∨ k = 3 ∨ k = 4 ∨ k = 5 ∨ k = 6 ∨ k = 7 ∨ k = 8 := by omega
  rcases this with h | h | h | h | h | h | h | h <;> subst h <;>
  · go_enter Tryd.func59, Tryd.ntmps59
    go_wp2
    refine bodyPost_ret (ashape_res rfl rfl (ashape_facts w _ _).1) rfl ?_
    exact ashape_fin rfl (ashape_facts w _ _).2
theorem ashape_none {k : Int} (h : k < 1 ∨ 8 < k) : ashC k = #[.string ⟨#[]⟩, .int .i64 0] := by
  have hn : acName k = [] := by
    unfold acName
    split
    · have : k = 0 := by omega
      subst this
      rfl
    · rfl
  have hm : acMany k = 0 := by
    unfold acMany
    rw [if_neg (by omega), if_neg (by omega), if_neg (by omega)]
  simp only [ashC, hn, hm]
  rfl
set_option maxHeartbeats 12800000 in
theorem ashape_out (k : Int) (h : k < 1 ∨ 8 < k) (w : World) : Calls Tryd.prog 59 #[.int .i64 k] w (AShapeP k w) := by
  have h1 : (k == 1) = false := by simp; omega
  have h2 : (k == 2) = false := by simp; omega
  have h3 : (k == 3) = false := by simp; omega
  have h4 : (k == 4) = false := by simp; omega
  have h5 : (k == 5) = false := by simp; omega
  have h6 : (k == 6) = false := by simp; omega
  have h7 : (k == 7) = false := by simp; omega
  have h8 : (k == 8) = false := by simp; omega
  have HN := Lib.hid (ashape_none h)
  clear h
  go_enter Tryd.func59, Tryd.ntmps59
  go_wp2
  refine bodyPost_ret (ashape_res rfl rfl (ashape_facts w _ _).1) rfl ?_
  exact ashape_fin HN.out.symm (ashape_facts w _ _).2
/-- The shape of acts of any kind. -/
theorem ashape_any (k : Int) (w : World) : Calls Tryd.prog 59 #[.int .i64 k] w fun e w' => e = .returned (.agg (ashC k)) ∧ Below w.heap.size w w' := by
  by_cases h : 1 ≤ k ∧ k ≤ 8
  · exact ashape_in k h.1 h.2 w
  · exact ashape_out k (by omega) w
theorem ashape_field (s : ByteArray) (n : Int) (w : World) : (Instr.field 104 (.agg #[.string s, .int .i64 n]) 0).run Tryd.prog w = .ok (.string s) w := by kernel_rfl
/-- A shape under letters. -/
theorem ashape_let (k : Int) : ∃ (s : ByteArray) (n : Int), ashC k = #[.string s, .int .i64 n] ∧ s.data.toList = acName k ∧ n = (acMany k : Nat) :=
  ⟨_, _, rfl, rfl, rfl⟩
theorem many_four (k : Int) : acMany k ≤ 4 := by
  unfold acMany
  split
  · omega
  · split
    · omega
    · split <;> omega
set_option maxRecDepth 100000 in
/-- The first word of acts of any kind. -/
theorem anm_any (k : Int) (w : World) : Calls Tryd.prog 32 #[.int .i64 k] w fun e w' => e = .returned (.string ⟨(acName k).toArray⟩) ∧ Below w.heap.size w w' := by
  have h := fun W => ashape_any k W
  obtain ⟨s, n, e, hs, -⟩ := ashape_let k
  have e2 : (⟨(acName k).toArray⟩ : ByteArray) = s := by rw [← hs]
  rw [e2]
  simp only [e] at h
  have H := Lib.hid h
  have hf := fun W => ashape_field s n W
  clear h e hs e2
  go_enter Tryd.func32, Tryd.ntmps32
  go_wp2_with fail
  with_reducible refine (H.out _).mono ?_
  rintro e w1 ⟨rfl, hb⟩
  have HB := Lib.hid hb
  clear hb
  go_wp2
  go_ret
  exact ⟨rfl, HB.out⟩
/-- What the number at a place of an act may be, at most. -/
def mostA (n p : Int) : Int := if n ≤ p then 0 else 999999999
theorem span_res {fn : Func} {p : Tmp} (hf : fn.results = #[.cell p 81]) {tmps : Array Value} {w : World} {B : Nat} {a b : Value} (hp : tmps.getD p undef = .pointer (some ⟨B, 0, none⟩)) (h : w.heap[B]? = some (.cells #[a, b] 81 (0, 0))) :
    (results fn tmps).run Tryd.prog w = .ok (.agg #[a, b]) w := by
  obtain ⟨h0, h1⟩ := two_cells h
  rw [results_one hf, hp]
  simp [loadVar, go_sem, h0, h1]
theorem span_facts (w : World) (o : Obj) (u0 u1 : Value) :
    ((w.alloc o).alloc (.cells #[u0, u1] 81)).heap[w.heap.size + 1]? = some (.cells #[u0, u1] 81 (0, 0)) ∧ Below w.heap.size w ((w.alloc o).alloc (.cells #[u0, u1] 81)) := by
  have h := heap_alloc_new (w.alloc o) (.cells #[u0, u1] 81)
  rw [World.size_alloc] at h
  exact ⟨h, ((Below.refl _ w).alloc (Nat.le_refl _) _).alloc (by simp) _⟩
set_option maxRecDepth 100000 in
theorem amay_any (s : ByteArray) (n p : Int) (w : World) : Calls Tryd.prog 89 #[.agg #[.string s, .int .i64 n], .int .i64 p] w fun e w' => e = .returned (.agg #[.int .i64 0, .int .i64 (mostA n p)]) ∧ Below w.heap.size w w' := by
  unfold mostA
  by_cases h : n ≤ p
  · rw [if_pos h]
    go_enter Tryd.func89, Tryd.ntmps89
    go_wp2
    refine bodyPost_ret (span_res rfl rfl (span_facts w _ _ _).1) rfl ?_
    exact ⟨rfl, (span_facts w _ _ _).2⟩
  · rw [if_neg h]
    go_enter Tryd.func89, Tryd.ntmps89
    go_wp2
    refine bodyPost_ret (span_res rfl rfl (span_facts w _ _ _).1) rfl ?_
    exact ⟨rfl, (span_facts w _ _ _).2⟩
theorem four_res {fn : Func} {p : Tmp} (hf : fn.results = #[.cell p 120]) {tmps : Array Value} {w : World} {B : Nat} {a b c d : Value} (hp : tmps.getD p undef = .pointer (some ⟨B, 0, none⟩)) (h : w.heap[B]? = some (.cells #[a, b, c, d] 120 (0, 0))) :
    (results fn tmps).run Tryd.prog w = .ok (.agg #[a, b, c, d]) w := by
  obtain ⟨h0, h1, h2, h3⟩ := word_cells h
  rw [results_one hf, hp]
  simp [loadVar, go_sem, h0, h1, h2, h3]
theorem four_facts (w : World) (o : Obj) (u0 u1 u2 u3 : Value) :
    ((w.alloc o).alloc (.cells #[u0, u1, u2, u3] 120)).heap[w.heap.size + 1]? = some (.cells #[u0, u1, u2, u3] 120 (0, 0)) ∧ Below w.heap.size w ((w.alloc o).alloc (.cells #[u0, u1, u2, u3] 120)) := by
  have h := heap_alloc_new (w.alloc o) (.cells #[u0, u1, u2, u3] 120)
  rw [World.size_alloc] at h
  exact ⟨h, ((Below.refl _ w).alloc (Nat.le_refl _) _).alloc (by simp) _⟩
/-- An act's numbers. -/
theorem numbersof_any (k x0 x1 x2 x3 : Int) (w : World) : Calls Tryd.prog 75 #[.agg #[.int .i64 k, .int .i64 x0, .int .i64 x1, .int .i64 x2, .int .i64 x3]] w fun e w' => e = .returned (.agg #[.int .i64 x0, .int .i64 x1, .int .i64 x2, .int .i64 x3]) ∧ Below w.heap.size w w' := by
  go_enter Tryd.func75, Tryd.ntmps75
  go_wp2
  refine bodyPost_ret (four_res rfl rfl (four_facts w _ _ _ _ _).1) rfl ?_
  exact ⟨rfl, (four_facts w _ _ _ _ _).2⟩
end Go.Proofs.YtmcfjlkjijaflaaDoor
