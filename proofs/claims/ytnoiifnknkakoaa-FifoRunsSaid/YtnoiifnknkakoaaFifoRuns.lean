/-
  FifoRuns: for any two rooms and any slice of deeds the law answers true and leaves its arguments as they were. No condition.
-/
import Derived.Test.YtnoiifnknkakoaaFifoRow
import Derived.Test.YtnoiifnknkakoaaFqRuns
namespace Go.Proofs.Ytnoiifnknkakoaa
open Go.ChangeShapes Go.WideShapes Go.ChangeAt Go.RowKit

set_option maxRecDepth 100000 in
set_option maxHeartbeats 1000000 in
theorem fruns_long (m0 m1 : Int) (ao : Option Addr) (n cap : Nat) (w : World) (hn : 100 < n) (hm : n ≤ maxLen) :
    Calls Try.prog 3 #[.agg #[.int .i64 m0, .int .i64 m1], .slice ao n cap] w fun e w' => e = .returned (.bool true) ∧ Turned [] w w' := by
  unfold maxLen at hm
  have hn' : (100 : Int) < n := by omega
  have TB := Lib.hid (show Turned [] w (w.alloc (.cells #[.int .i64 m0, .int .i64 m1] 22)) from (Turned.refl [] w).alloc _)
  have AW := Lib.hid (awake5 (w.alloc (.cells #[.int .i64 m0, .int .i64 m1] 22)))
  go_enter Try.func3, Try.ntmps3
  go_wp2_with fail
  refine AW.out.mono ?_
  rintro e w0 ⟨rfl, t0⟩
  have T0 := Lib.hid (TB.out.j t0)
  clear t0
  go_wp2
  go_ret
  exact ⟨rfl, T0.out⟩

set_option maxRecDepth 100000 in
theorem fruns_lifted (os : Os) (started : os.Started) (H : Type) (enc : TypeId × Value → H) :
    ReturnsInHanded {} Try.checked os 3 .any (Rows.fifoRunsSpec.pre6 enc Try.prog Try.f3 Rows.fifoRunsRow.domain false) (Rows.fifoRunsSpec.post enc Try.prog Try.f3 false true false false) := by
  refine returnsInHanded_of_change (C := Try.checked) own started (by kernel_rfl) Try.func3
    (ChangeSpec.witness6 (enc := enc) (C := Try.checked) false ⟨#[], #[.agg #[.int .i64 0, .int .i64 0], .slice none 0 0], []⟩ 8 (by kernel_rfl) (by kernel_rfl) (by kernel_rfl) (by kernel_rfl)) ?_
  intro W base args ds gs before hval0 hW hcnd _
  have hval : ∀ (j : Nat) t v, Try.f3.params[j]? = some t → args[j]? = some v → Value.okWide Try.prog W .any base t v := hval0
  have hW' := hW
  obtain ⟨p, q, hA0, hV, rfl, hfz, hnd⟩ := hW
  have hA : DataW.TrodAll enc Try.prog W 0 (fun _ => true) true Try.f3.params.toList args.toList ds p := hA0
  rw [Try.params3] at hA hval
  obtain ⟨v0, v1, d0, d1, p0, p1, rfl, rfl, rfl, h0, h1⟩ := trodAll_two hA
  obtain ⟨rfl, rfl⟩ := trodVars_none hV
  have h0k := h0
  have h1k := h1
  obtain ⟨m0, m1, rfl⟩ := open_two Try.underlying22 Try.underlying3 (by kernel_rfl) (by kernel_rfl) (hval 0 22 v0 rfl rfl) h0
  obtain ⟨ao, b, off, n, cap, E, rfl, hm, hao, hE, hWf⟩ := open_deeds5 Try.underlying23 Try.underlying32 (by kernel_rfl) (by kernel_rfl)
    Try.underlying5 Try.underlying4 Try.underlying3 (hval 1 23 v1 rfl rfl) h1
  clear hA0 hval0
  have hlt0 : ∀ x ∈ p0, x.block < W.heap.size := fun x hx => hW'.lt x (by simp [hx])
  have hlt1 : ∀ x ∈ p1, x.block < W.heap.size := fun x hx => hW'.lt x (by simp [hx])
  have walk : Calls Try.prog 3 #[.agg #[.int .i64 m0, .int .i64 m1], .slice ao n cap] W fun e w' => e = .returned (.bool true) ∧ Turned [] W w' := by
    by_cases hn : n ≤ 100
    · exact fruns_walk m0 m1 ao b off n cap E W hn hao hE (fun i hi => ⟨(u8_low (hWf i hi).1).1, (hWf i hi).2⟩)
    · exact fruns_long m0 m1 ao n cap W (by omega) hm
  refine walk.mono fun e W' ⟨he, ht⟩ => ?_
  have hb : Below W.heap.size W W' := ht.below (by simp) (Nat.le_refl _)
  subst he
  exact ⟨_, rfl, post_law (pv := []) hW' hb (fun _ _ _ => trodAll_mk1 (shut_bool Try.underlying4 _))
    (trodAll_mk2 (Below.trod laidOut (by kernel_rfl) (of_decide_eq_true (by kernel_rfl)) h0k hb hlt0) (Below.trod laidOut (by kernel_rfl) (of_decide_eq_true (by kernel_rfl)) h1k hb hlt1)) rfl⟩

theorem fifoRuns_holds : Rows.FifoRunsSaid :=
  OpenClaim.holds_of_wide 3 Try.f3 rfl rfl rfl rfl rfl rfl rfl ⟨rfl, rfl, rfl, rfl, rfl⟩ rfl rfl rfl rfl rfl (by kernel_rfl) Try.func3 (by kernel_rfl)
    (of_decide_eq_true (by kernel_rfl)) (by unfold Func.isWrapper; first | (rw [if_pos (by decide +kernel)]; kernel_rfl) | (rw [if_neg (by decide +kernel)]; exact ⟨rfl, rfl⟩))
    (fun os started H enc _ => fruns_lifted os started H enc)
end Go.Proofs.Ytnoiifnknkakoaa
