/-
  For every number and every slice of deeds the Go function forelocklaw04.HeapRuns returns true and leaves its arguments as they were. No condition.
-/
import Derived.Test.YthhdidcmiiglbaaHeapRow
import Derived.Test.YthhdidcmiiglbaaHbRuns
namespace Go.Proofs.Ythhdidcmiiglbaa
open Go.ChangeShapes Go.WideShapes Go.ChangeAt Go.RowKit

set_option maxRecDepth 100000 in
set_option maxHeartbeats 1000000 in
theorem runs_long (most : Int) (ao : Option Addr) (n cap : Nat) (w : World) (hn : 100 < n) (hm : n ≤ maxLen) :
    Calls Try.prog 3 #[.int .i64 most, .slice ao n cap] w fun e w' => e = .returned (.bool true) ∧ Turned [] w w' := by
  unfold maxLen at hm
  have hn' : (100 : Int) < n := by omega
  go_enter Try.func3, Try.ntmps3
  go_wp2_with fail
  refine (awake_any w).mono ?_
  rintro e w0 ⟨rfl, t0⟩
  have T0 := Lib.hid t0
  clear t0
  go_wp2
  go_ret
  exact ⟨rfl, T0.out⟩

set_option maxRecDepth 100000 in
theorem runs_lifted (os : Os) (started : os.Started) (H : Type) (enc : TypeId × Value → H) :
    ReturnsInHanded {} Try.checked os 3 .any (Rows.heapRunsSpec.pre6 enc Try.prog Try.f3 Rows.heapRunsRow.domain false) (Rows.heapRunsSpec.post enc Try.prog Try.f3 false true false false) := by
  refine returnsInHanded_of_change (C := Try.checked) own started (by kernel_rfl) Try.func3
    (ChangeSpec.witness6 (enc := enc) (C := Try.checked) false ⟨#[], #[.int .i64 0, .slice none 0 0], []⟩ 8 (by kernel_rfl) (by kernel_rfl) (by kernel_rfl) (by kernel_rfl)) ?_
  intro W base args ds gs before hval0 hW hcnd _
  have hval : ∀ (j : Nat) t v, Try.f3.params[j]? = some t → args[j]? = some v → Value.okWide Try.prog W .any base t v := hval0
  have hW' := hW
  obtain ⟨p, q, hA0, hV, rfl, hfz, hnd⟩ := hW
  have hA : DataW.TrodAll enc Try.prog W 0 (fun _ => true) true Try.f3.params.toList args.toList ds p := hA0
  rw [Try.params3] at hA hval
  obtain ⟨v0, v1, d0, d1, p0, p1, rfl, rfl, rfl, h0, h1⟩ := trodAll_two hA
  obtain ⟨rfl, rfl⟩ := trodVars_none hV
  have h1k := h1
  obtain ⟨a0, rfl, rfl, rfl, w0⟩ := open_int Try.underlying3 (hval 0 3 v0 rfl rfl) h0
  obtain ⟨ao, b, off, n, cap, E, rfl, hm, hao, hE, hWf⟩ := open_deeds4 Try.underlying22 Try.underlying32 (by kernel_rfl) rfl rfl rfl (by kernel_rfl) (by kernel_rfl) (by kernel_rfl) Try.underlying30 rfl rfl (by kernel_rfl) (by kernel_rfl)
    Try.underlying5 Try.underlying28 Try.underlying3 Try.underlying3 (hval 1 22 v1 rfl rfl) h1
  clear hA0 hval0
  have hlt : ∀ x ∈ p1, x.block < W.heap.size := fun x hx => hW'.lt x (by simpa using hx)
  have walk : Calls Try.prog 3 #[.int .i64 a0, .slice ao n cap] W fun e w' => e = .returned (.bool true) ∧ Turned [] W w' := by
    by_cases hn : n ≤ 100
    · exact runs_walk a0 ao b off n cap E W hn hao hE (fun i hi => by
        obtain ⟨x0, x1, x2, x3⟩ := hWf i hi
        exact ⟨(u8_of_wf x0).1, u64_of_wf x1, x2, x3⟩)
    · exact runs_long a0 ao n cap W (by omega) hm
  refine walk.mono fun e W' ⟨he, ht⟩ => ?_
  have hb : Below W.heap.size W W' := ht.below (by simp) (Nat.le_refl _)
  subst he
  exact ⟨_, rfl, post_law (pv := []) hW' hb (fun _ _ _ => trodAll_mk1 (shut_bool Try.underlying4 _))
    (trodAll_mk2 (shut_int Try.underlying3 w0) (Below.trod laidOut (by kernel_rfl) (of_decide_eq_true (by kernel_rfl)) h1k hb hlt)) rfl⟩

theorem heapRuns_holds : Rows.HeapRunsSaid :=
  OpenClaim.holds_of_wide 3 Try.f3 rfl rfl rfl rfl rfl rfl rfl ⟨rfl, rfl, rfl, rfl, rfl⟩ rfl rfl rfl rfl rfl (by kernel_rfl) Try.func3 (by kernel_rfl)
    (of_decide_eq_true (by kernel_rfl)) (by unfold Func.isWrapper; first | (rw [if_pos (by decide +kernel)]; kernel_rfl) | (rw [if_neg (by decide +kernel)]; exact ⟨rfl, rfl⟩))
    (fun os started H enc _ => runs_lifted os started H enc)
#print axioms heapRuns_holds
end Go.Proofs.Ythhdidcmiiglbaa
