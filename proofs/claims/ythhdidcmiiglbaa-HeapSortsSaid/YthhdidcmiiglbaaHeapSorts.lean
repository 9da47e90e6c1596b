/-
  For every slice of numbers the Go function forelocklaw04.HeapSorts returns true and leaves its argument as it was. No condition.
-/
import Derived.Test.YthhdidcmiiglbaaHeapRow
import Derived.Test.YthhdidcmiiglbaaHbSorts
namespace Go.Proofs.Ythhdidcmiiglbaa
open Go.ChangeShapes Go.WideShapes Go.ChangeAt Go.RowKit

set_option maxRecDepth 100000 in
set_option maxHeartbeats 1000000 in
theorem sorts_long (ao : Option Addr) (n cap : Nat) (w : World) (hn : 100 < n) (hm : n ≤ maxLen) :
    Calls Try.prog 4 #[.slice ao n cap] w fun e w' => e = .returned (.bool true) ∧ Turned [] w w' := by
  unfold maxLen at hm
  have hn' : (100 : Int) < n := by omega
  refine callsIn_wide.1 (?_ : CallsIn Fence.wide 20 _ _ _ _ _)
  refine callsIn_of_wp_marks Try.func4 rfl trivial ?_ rfl
  simp only [Try.ntmps4, List.size_toArray, List.length_cons, List.length_nil, Nat.reduceAdd, Nat.reduceSub, Array.replicate_succ, Array.replicate_zero, List.push_toArray, List.append_toArray, List.nil_append, List.cons_append]
  refine wpIn_wide.2 ?_
  have HE0 := Lib.hid (SoB.new w (.slice ao n cap))
  go_wp2_with fail
  refine (awake_any _).mono ?_
  rintro e w0 ⟨rfl, t0⟩
  have E1 : SoB w w0 (.slice ao n cap) := HE0.out.step t0 (by simp)
  have c1 := St.one_cell' E1.l
  have cr := St.one_cell' E1.r
  have fr := frozen_of_row w0 (w.heap.size + 1) 0 _ _ E1.r
  have hr : (w0.setCell ⟨w.heap.size + 1, 0, none⟩ (.bool true)).heap[w.heap.size + 1]? = some (.cells #[.bool true] 4 (0, 0)) := by
    rw [heap_setCell_same _ _ _ _ _ _ E1.r]
    rfl
  have HR := Lib.hid hr
  have HT := Lib.hid (E1.turned.setCell (p := ⟨w.heap.size + 1, 0, none⟩) (.inr (by simp)) (.bool true))
  clear t0 E1 HE0 hr
  go_wp2
  exact ⟨_, bool_result rfl rfl HR.out, rfl, HT.out⟩

set_option maxRecDepth 100000 in
theorem sorts_lifted (os : Os) (started : os.Started) (H : Type) (enc : TypeId × Value → H) :
    ReturnsInHanded {} Try.checked os 4 .any (Rows.heapSortsSpec.pre6 enc Try.prog Try.f4 Rows.heapSortsRow.domain false) (Rows.heapSortsSpec.post enc Try.prog Try.f4 false true false false) := by
  refine returnsInHanded_of_change (C := Try.checked) own started (by kernel_rfl) Try.func4
    (ChangeSpec.witness6 (enc := enc) (C := Try.checked) false ⟨#[], #[.slice none 0 0], []⟩ 8 (by kernel_rfl) (by kernel_rfl) (by kernel_rfl) (by kernel_rfl)) ?_
  intro W base args ds gs before hval0 hW hcnd _
  have hval : ∀ (j : Nat) t v, Try.f4.params[j]? = some t → args[j]? = some v → Value.okWide Try.prog W .any base t v := hval0
  have hW' := hW
  obtain ⟨p, q, hA0, hV, rfl, hfz, hnd⟩ := hW
  have hA : DataW.TrodAll enc Try.prog W 0 (fun _ => true) true Try.f4.params.toList args.toList ds p := hA0
  rw [Try.params4] at hA hval
  obtain ⟨v0, d0, rfl, rfl, h0⟩ := trodAll_one hA
  obtain ⟨rfl, rfl⟩ := trodVars_none hV
  have h0k := h0
  obtain ⟨ao, b, off, n, cap, F, rfl, hm, hao, hD, hF⟩ := open_u64s Try.underlying51 Try.underlying28 (by kernel_rfl) (hval 0 51 v0 rfl rfl) h0
  clear hA0 hval0
  have hlt : ∀ x ∈ p, x.block < W.heap.size := fun x hx => hW'.lt x (by simpa using hx)
  have walk : Calls Try.prog 4 #[.slice ao n cap] W fun e w' => e = .returned (.bool true) ∧ Turned [] W w' := by
    by_cases hn : n ≤ 100
    · exact sorts_walk ao b off n cap F W hn hao hD hF
    · exact sorts_long ao n cap W (by omega) hm
  refine walk.mono fun e W' ⟨he, ht⟩ => ?_
  have hb : Below W.heap.size W W' := ht.below (by simp) (Nat.le_refl _)
  subst he
  exact ⟨_, rfl, post_law (pv := []) hW' hb (fun _ _ _ => trodAll_mk1 (shut_bool Try.underlying4 _))
    (trodAll_mk1 (Below.trod laidOut (by kernel_rfl) (of_decide_eq_true (by kernel_rfl)) h0k hb hlt)) rfl⟩

theorem heapSorts_holds : Rows.HeapSortsSaid :=
  OpenClaim.holds_of_wide 4 Try.f4 rfl rfl rfl rfl rfl rfl rfl ⟨rfl, rfl, rfl, rfl, rfl⟩ rfl rfl rfl rfl rfl (by kernel_rfl) Try.func4 (by kernel_rfl)
    (of_decide_eq_true (by kernel_rfl)) (by unfold Func.isWrapper; first | (rw [if_pos (by decide +kernel)]; kernel_rfl) | (rw [if_neg (by decide +kernel)]; exact ⟨rfl, rfl⟩))
    (fun os started H enc _ => sorts_lifted os started H enc)
#print axioms heapSorts_holds
end Go.Proofs.Ythhdidcmiiglbaa
