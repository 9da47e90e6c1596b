/-
  The document's Name, Many, get, put of acts.
-/
import Derived.Test.YtmcfjlkjijaflaaDoorGXB
import Derived.Test.YtmcfjlkjijaflaaDoorAcMayP
namespace Go.Proofs.YtmcfjlkjijaflaaDoor
open Go.RowKit

set_option maxRecDepth 100000 in
set_option maxHeartbeats 6400000 in
theorem raname_any (k : Int) (w : World) : Calls Tryd.prog 33 #[.int .i64 k] w fun e w' => e = .returned (.string ⟨(acName k).toArray⟩) ∧ Below w.heap.size w w' := by
  by_cases h0 : k < 0
  · have hn : acName k = [] := by unfold acName; rw [if_neg (by omega)]
    rw [hn]
    clear hn
    go_enter Tryd.func33, Tryd.ntmps33
    go_wp2
    go_ret
    exact ⟨rfl, (Below.refl _ w).alloc (Nat.le_refl _) _⟩
  · by_cases h8 : 8 < k
    · have hn : acName k = [] := by unfold acName; rw [if_neg (by omega)]
      rw [hn]
      clear hn
      go_enter Tryd.func33, Tryd.ntmps33
      go_wp2
      go_ret
      exact ⟨rfl, (Below.refl _ w).alloc (Nat.le_refl _) _⟩
    · have : k = 0 ∨ k = 1 ∨ k = 2 ∨ k = 3 ∨ k = 4 ∨ k = 5 ∨ k = 6 ∨ k = 7 ∨ k = 8 := by omega
      clear h0 h8
      rcases this with h | h | h | h | h | h | h | h | h <;> subst h <;>
      · go_enter Tryd.func33, Tryd.ntmps33
        go_wp2
        go_ret
        exact ⟨rfl, (Below.refl _ w).alloc (Nat.le_refl _) _⟩
set_option maxRecDepth 100000 in
set_option maxHeartbeats 6400000 in
theorem ramany_any (k : Int) (h1 : 1 ≤ k) (h8 : k ≤ 8) (w : World) : Calls Tryd.prog 55 #[.int .i64 k] w fun e w' => e = .returned (.int .i64 (acMany k : Nat)) ∧ Below w.heap.size w w' := by
  have : k = 1 ∨ k = 2 ∨ k = 3 ∨ k = 4 ∨ k = 5 ∨ k = 6 ∨ k = 7 ∨ k = 8 := by omega
  clear h1 h8
  rcases this with h | h | h | h | h | h | h | h <;> subst h <;>
  · go_enter Tryd.func55, Tryd.ntmps55
    go_wp2
    go_ret
    exact ⟨rfl, (Below.refl _ w).alloc (Nat.le_refl _) _⟩
theorem raget_any (k x0 x1 x2 x3 : Int) (i : Nat) (w : World) : Calls Tryd.prog 56 #[.agg #[.int .i64 k, .int .i64 x0, .int .i64 x1, .int .i64 x2, .int .i64 x3], .int .i64 i] w fun e w' => e = .returned (.int .i64 (xN x0 x1 x2 x3 i)) ∧ Below w.heap.size w w' := by
  by_cases h0 : i = 0
  · subst h0
    go_enter Tryd.func56, Tryd.ntmps56
    go_wp2
    go_ret
    exact ⟨rfl, (Below.refl _ w).alloc (Nat.le_refl _) _⟩
  · by_cases h1 : i = 1
    · subst h1
      go_enter Tryd.func56, Tryd.ntmps56
      go_wp2
      go_ret
      exact ⟨rfl, (Below.refl _ w).alloc (Nat.le_refl _) _⟩
    · by_cases h2 : i = 2
      · subst h2
        go_enter Tryd.func56, Tryd.ntmps56
        go_wp2
        go_ret
        exact ⟨rfl, (Below.refl _ w).alloc (Nat.le_refl _) _⟩
      · have e : xN x0 x1 x2 x3 i = x3 := by
          match i, h0, h1, h2 with
          | j + 3, _, _, _ => rfl
        rw [e]
        have b0 : ((i : Int) == 0) = false := by simp; omega
        have b1 : ((i : Int) == 1) = false := by simp; omega
        have b2 : ((i : Int) == 2) = false := by simp; omega
        clear e h0 h1 h2
        go_enter Tryd.func56, Tryd.ntmps56
        go_wp2
        go_ret
        exact ⟨rfl, (Below.refl _ w).alloc (Nat.le_refl _) _⟩
theorem put_facts (w : World) (o : Obj) (a b c d e : Value) :
    ((w.alloc o).alloc (.cells #[a, b, c, d, e] 69)).heap[w.heap.size + 1]? = some (.cells #[a, b, c, d, e] 69 (0, 0)) ∧ Below w.heap.size w ((w.alloc o).alloc (.cells #[a, b, c, d, e] 69)) := by
  have h := heap_alloc_new (w.alloc o) (.cells #[a, b, c, d, e] 69)
  rw [World.size_alloc] at h
  exact ⟨h, ((Below.refl _ w).alloc (Nat.le_refl _) _).alloc (by simp) _⟩
set_option maxRecDepth 100000 in
theorem raput0 (k x0 x1 x2 x3 v : Int) (w : World) : Calls Tryd.prog 58 #[.agg #[.int .i64 k, .int .i64 x0, .int .i64 x1, .int .i64 x2, .int .i64 x3], .int .i64 0, .int .i64 v] w fun e w' => e = .returned (.agg #[.int .i64 k, .int .i64 v, .int .i64 x1, .int .i64 x2, .int .i64 x3]) ∧ Below w.heap.size w w' := by
  go_enter Tryd.func58, Tryd.ntmps58
  go_wp2
  refine bodyPost_ret (act_res rfl rfl (put_facts w _ _ _ _ _ _).1) rfl ?_
  exact ⟨rfl, (put_facts w _ _ _ _ _ _).2⟩
set_option maxRecDepth 100000 in
theorem raput1 (k x0 x1 x2 x3 v : Int) (w : World) : Calls Tryd.prog 58 #[.agg #[.int .i64 k, .int .i64 x0, .int .i64 x1, .int .i64 x2, .int .i64 x3], .int .i64 1, .int .i64 v] w fun e w' => e = .returned (.agg #[.int .i64 k, .int .i64 x0, .int .i64 v, .int .i64 x2, .int .i64 x3]) ∧ Below w.heap.size w w' := by
  go_enter Tryd.func58, Tryd.ntmps58
  go_wp2
  refine bodyPost_ret (act_res rfl rfl (put_facts w _ _ _ _ _ _).1) rfl ?_
  exact ⟨rfl, (put_facts w _ _ _ _ _ _).2⟩
set_option maxRecDepth 100000 in
theorem raput2 (k x0 x1 x2 x3 v : Int) (w : World) : Calls Tryd.prog 58 #[.agg #[.int .i64 k, .int .i64 x0, .int .i64 x1, .int .i64 x2, .int .i64 x3], .int .i64 2, .int .i64 v] w fun e w' => e = .returned (.agg #[.int .i64 k, .int .i64 x0, .int .i64 x1, .int .i64 v, .int .i64 x3]) ∧ Below w.heap.size w w' := by
  go_enter Tryd.func58, Tryd.ntmps58
  go_wp2
  refine bodyPost_ret (act_res rfl rfl (put_facts w _ _ _ _ _ _).1) rfl ?_
  exact ⟨rfl, (put_facts w _ _ _ _ _ _).2⟩
set_option maxRecDepth 100000 in
theorem raput3 (k x0 x1 x2 x3 v : Int) (w : World) : Calls Tryd.prog 58 #[.agg #[.int .i64 k, .int .i64 x0, .int .i64 x1, .int .i64 x2, .int .i64 x3], .int .i64 3, .int .i64 v] w fun e w' => e = .returned (.agg #[.int .i64 k, .int .i64 x0, .int .i64 x1, .int .i64 x2, .int .i64 v]) ∧ Below w.heap.size w w' := by
  go_enter Tryd.func58, Tryd.ntmps58
  go_wp2
  refine bodyPost_ret (act_res rfl rfl (put_facts w _ _ _ _ _ _).1) rfl ?_
  exact ⟨rfl, (put_facts w _ _ _ _ _ _).2⟩
theorem getD_snoc {out : List Int} {i : Nat} (h : out.length = i) (v : Int) (j : Nat) : (out ++ [v]).getD j 0 = if j = i then v else out.getD j 0 := by
  rw [List.getD_eq_getElem?_getD, List.getD_eq_getElem?_getD]
  by_cases hj : j = i
  · subst hj
    rw [if_pos rfl, List.getElem?_append_right (by omega)]
    simp [h]
  · rw [if_neg hj]
    rcases Nat.lt_or_ge j i with h2 | h2
    · rw [List.getElem?_append_left (by omega)]
    · rw [List.getElem?_append_right (by omega), List.getElem?_eq_none (by simp; omega), List.getElem?_eq_none (by omega)]
/-- A further number of an act. -/
theorem raput_any (k : Int) (out : List Int) (i : Nat) (h : out.length = i) (hi : i < 4) (v : Int) (w : World) : Calls Tryd.prog 58 #[acV (mkAc k out), .int .i64 i, .int .i64 v] w fun e w' => e = .returned (acV (mkAc k (out ++ [v]))) ∧ Below w.heap.size w w' := by
  have e : mkAc k (out ++ [v]) = (k, if 0 = i then v else out.getD 0 0, if 1 = i then v else out.getD 1 0, if 2 = i then v else out.getD 2 0, if 3 = i then v else out.getD 3 0) := by
    unfold mkAc
    rw [getD_snoc h, getD_snoc h, getD_snoc h, getD_snoc h]
  rw [e]
  have : i = 0 ∨ i = 1 ∨ i = 2 ∨ i = 3 := by omega
  clear h e
  rcases this with rfl | rfl | rfl | rfl
  · exact raput0 k _ _ _ _ v w
  · exact raput1 k _ _ _ _ v w
  · exact raput2 k _ _ _ _ v w
  · exact raput3 k _ _ _ _ v w
end Go.Proofs.YtmcfjlkjijaflaaDoor
