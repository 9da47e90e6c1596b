/-
  UnitCalls' row, given what is said of the program's unit. (Made by gen_unrow.py.)
-/
import Derived.Test.YtaohihfhgialnaaUnCalls
import Derived.Test.YtaohihfhgialnaaUnRow
namespace Go.Proofs.Ytaohihfhgialnaa
open Go.ChangeShapes Go.WideShapes Go.ChangeAt Go.RowKit

set_option maxRecDepth 100000 in
theorem unitcalls_lifted (S : UnSaid) (os : Os) (started : os.Started) (H : Type) (enc : TypeId × Value → H) :
    ReturnsInHanded {} Try.checked os 3 .any (Rows.unitCallsSpec.pre6 enc Try.prog Try.f3 Rows.unitCallsRow.domain false) (Rows.unitCallsSpec.post enc Try.prog Try.f3 false true false false) := by
  refine returnsInHanded_of_change (C := Try.checked) own started (by kernel_rfl) Try.func3
    (ChangeSpec.witness6 (enc := enc) (C := Try.checked) false ⟨#[], #[.agg #[.int .i64 0, .int .i64 0, .int .i64 0], .agg #[.int .u64 0, .int .u64 0, .int .u64 0]], []⟩ 8 (by kernel_rfl) (by kernel_rfl) (by kernel_rfl) (by kernel_rfl)) ?_
  intro W base args ds gs before hval0 hW hcnd _
  have hval : ∀ (j : Nat) t v, Try.f3.params[j]? = some t → args[j]? = some v → Value.okWide Try.prog W .any base t v := hval0
  have hW' := hW
  obtain ⟨p, q, hA0, hV, rfl, hfz, hnd⟩ := hW
  have hA : DataW.TrodAll enc Try.prog W 0 (fun _ => true) true Try.f3.params.toList args.toList ds p := hA0
  rw [Try.params3] at hA hval
  obtain ⟨v0, v1, d0, d1, p0, p1, rfl, rfl, rfl, h0, h1⟩ := trodAll_two hA
  obtain ⟨rfl, rfl⟩ := trodVars_none hV
  have h0k := h0
  have h1k := h1
  obtain ⟨xs, hlen, rfl, rfl, rfl, hw⟩ := open_arr Try.underlying22 Try.underlying3 cells_threei cells_i64 (hval 0 22 v0 rfl rfl) h0
  obtain ⟨n0, n1, n2, rfl⟩ := list3 xs hlen
  obtain ⟨ys, hlen2, rfl, rfl, rfl, hw2⟩ := open_arr Try.underlying24 Try.underlying23 cells_three cells_u64 (hval 1 24 v1 rfl rfl) h1
  obtain ⟨m0, m1, m2, rfl⟩ := list3 ys hlen2
  clear hA0 hval0
  simp only [List.append_nil] at hW'
  refine (unitcalls_walk S n0 n1 n2 m0 m1 m2 (word_of_wf (hw2 _ (by simp))) (word_of_wf (hw2 _ (by simp))) (word_of_wf (hw2 _ (by simp))) W).mono fun e W' ⟨he, hb⟩ => ?_
  subst he
  exact ⟨_, rfl, post_law (pa := []) (pv := []) hW' hb (fun _ _ _ => trodAll_mk1 (shut_bool Try.underlying4 _))
    (trodAll_mk2 (Below.trod laidOut (by kernel_rfl) (of_decide_eq_true (by kernel_rfl)) h0k hb (fun x hx => by cases hx)) (Below.trod laidOut (by kernel_rfl) (of_decide_eq_true (by kernel_rfl)) h1k hb (fun x hx => by cases hx))) rfl⟩
/-- UnitCalls' statement, given what is said of the program's unit. -/
theorem unitCalls_of (S : UnSaid) : Rows.UnitCallsSaid :=
  OpenClaim.holds_of_wide 3 Try.f3 rfl rfl rfl rfl rfl rfl rfl ⟨rfl, rfl, rfl, rfl, rfl⟩ rfl rfl rfl rfl rfl (by kernel_rfl) Try.func3 (by kernel_rfl)
    (of_decide_eq_true (by kernel_rfl)) (by unfold Func.isWrapper; first | (rw [if_pos (by decide +kernel)]; kernel_rfl) | (rw [if_neg (by decide +kernel)]; exact ⟨rfl, rfl⟩))
    (fun os started H enc _ => unitcalls_lifted S os started H enc)
end Go.Proofs.Ytaohihfhgialnaa
