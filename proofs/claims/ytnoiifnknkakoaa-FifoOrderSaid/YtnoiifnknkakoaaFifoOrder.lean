/-
  FifoOrder: for any slice of numbers and any two bytes the law answers true and leaves its arguments as they were. No condition.
-/
import Derived.Test.YtnoiifnknkakoaaFifoRow
import Derived.Test.YtnoiifnknkakoaaFqOrder2
namespace Go.Proofs.Ytnoiifnknkakoaa
open Go.ChangeShapes Go.WideShapes Go.ChangeAt Go.RowKit Go.Deep

/-- A slice of integers: its cells. -/
theorem open_nums5 {H : Type} {enc : TypeId × Value → H} {P : Program} {w : World} {base : Nat} {held : Bool} {t e : TypeId} (ht : P.underlying t = some (.slice e)) (he : P.underlying e = some (.int .i64)) (hC : P.cellsOf e = 1) {v : Value} {d : DataW H} {p : List MemPlace} {r : Reach} {b0 : Nat}
    (hok : Value.okWide P w r b0 t v) (h : DataW.Trod enc P w base (fun _ => true) held t v d p) :
    ∃ (ao : Option Addr) (b off cap : Nat) (zs : List Int), v = .slice ao zs.length cap ∧ zs.length ≤ maxLen ∧ (0 < zs.length → ao = some ⟨b, off, none⟩ ∧ b < w.heap.size) ∧ ∀ i, i < zs.length → w.cell? ⟨b, off + i, none⟩ = some (.int .i64 (zs.getD i 0)) := by
  obtain ⟨fuel, hf⟩ := h
  obtain ⟨a', len', cap', rfl⟩ := okWide_slice ht hok
  rcases open_ints ht he hC hf with ⟨hcs, _⟩ | ⟨a, len, cap, zs, hcs, _, hl, hm, hlen, _, hc, _⟩
  · have hv : Value.slice a' len' cap' = .slice none 0 0 := by simpa [Value.cells] using hcs
    exact ⟨none, 0, 0, 0, [], hv, by simp, fun h => by simp at h, fun i h => by simp at h⟩
  · have hv : Value.slice a' len' cap' = .slice (some a) len cap := by simpa [Value.cells] using hcs
    simp only [if_true] at hlen
    have hzl : (zs.take len).length = len := by simp; omega
    by_cases h0 : 0 < len
    · have c0 := hc 0 (by omega)
      have ha0 : a.add 0 = a := by
        unfold Addr.add
        simp
      rw [ha0] at c0
      obtain ⟨b, off, rfl, hbl⟩ := spot_none c0
      refine ⟨_, b, off, cap, zs.take len, by rw [hzl]; exact hv, by omega, fun _ => ⟨rfl, hbl⟩, fun i hi => ?_⟩
      rw [hzl] at hi
      have hci := hc i (by omega)
      rw [Addr.add_lit] at hci
      rw [hci]
      simp [hi]
    · refine ⟨some a, 0, 0, cap, zs.take len, by rw [hzl]; exact hv, by omega, fun h => by omega, fun i hi => by omega⟩

set_option maxRecDepth 100000 in
set_option maxHeartbeats 1000000 in
theorem forder_long (ao : Option Addr) (n cap : Nat) (nn mo : Int) (w : World) (hn : 80 < n) (hm : n ≤ maxLen) :
    Calls Try.prog 4 #[.slice ao n cap, .int .u8 nn, .int .u8 mo] w fun e w' => e = .returned (.bool true) ∧ Turned [] w w' := by
  unfold maxLen at hm
  have hn' : (80 : Int) < n := by omega
  refine callsIn_wide.1 (?_ : CallsIn Fence.wide 20 _ _ _ _ _)
  refine callsIn_of_wp_marks Try.func4 rfl trivial ?_ rfl
  simp only [Try.ntmps4, List.size_toArray, List.length_cons, List.length_nil, Nat.reduceAdd, Nat.reduceSub, Array.replicate_succ, Array.replicate_zero, List.push_toArray, List.append_toArray, List.nil_append, List.cons_append]
  refine wpIn_wide.2 ?_
  have HE0 := Lib.hid (OrB.new w mo)
  have AW := Lib.hid (awake5 ((w.alloc (.cells #[.int .u8 mo] 5)).alloc (.cells #[.bool false] 4)))
  go_wp2_with fail
  refine AW.out.mono ?_
  rintro e w0 ⟨rfl, t0⟩
  have E1 : OrB w w0 mo := HE0.out.later t0
  have cr := cell1 E1.r
  have fr := frozen_of_row w0 (w.heap.size + 1) 0 _ _ E1.r
  have hr : (w0.setCell ⟨w.heap.size + 1, 0, none⟩ (.bool true)).heap[w.heap.size + 1]? = some (.cells #[.bool true] 4 (0, 0)) := by
    rw [heap_setCell_same _ _ _ _ _ _ E1.r]
    rfl
  have HR := Lib.hid hr
  have HT := Lib.hid (E1.turned.setCell (p := ⟨w.heap.size + 1, 0, none⟩) (.inr (by simp)) (.bool true))
  clear t0 E1 HE0 hr AW
  go_wp2
  exact ⟨_, bool_result rfl rfl HR.out, rfl, HT.out⟩

set_option maxRecDepth 100000 in
theorem forder_lifted (os : Os) (started : os.Started) (H : Type) (enc : TypeId × Value → H) :
    ReturnsInHanded {} Try.checked os 4 .any (Rows.fifoOrderSpec.pre6 enc Try.prog Try.f4 Rows.fifoOrderRow.domain false) (Rows.fifoOrderSpec.post enc Try.prog Try.f4 false true false false) := by
  refine returnsInHanded_of_change (C := Try.checked) own started (by kernel_rfl) Try.func4
    (ChangeSpec.witness6 (enc := enc) (C := Try.checked) false ⟨#[], #[.slice none 0 0, .int .u8 0, .int .u8 0], []⟩ 8 (by kernel_rfl) (by kernel_rfl) (by kernel_rfl) (by kernel_rfl)) ?_
  intro W base args ds gs before hval0 hW hcnd _
  have hval : ∀ (j : Nat) t v, Try.f4.params[j]? = some t → args[j]? = some v → Value.okWide Try.prog W .any base t v := hval0
  have hW' := hW
  obtain ⟨p, q, hA0, hV, rfl, hfz, hnd⟩ := hW
  have hA : DataW.TrodAll enc Try.prog W 0 (fun _ => true) true Try.f4.params.toList args.toList ds p := hA0
  rw [Try.params4] at hA hval
  obtain ⟨v0, v1, v2, d0, d1, d2, p0, p1, p2, rfl, rfl, rfl, h0, h1, h2⟩ := trodAll_three hA
  obtain ⟨rfl, rfl⟩ := trodVars_none hV
  have h0k := h0
  obtain ⟨a1, rfl, rfl, rfl, w1⟩ := open_int Try.underlying5 (hval 1 5 v1 rfl rfl) h1
  obtain ⟨a2, rfl, rfl, rfl, w2⟩ := open_int Try.underlying5 (hval 2 5 v2 rfl rfl) h2
  obtain ⟨ao, b, off, cap, zs, rfl, hm, hao, hD⟩ := open_nums5 Try.underlying51 Try.underlying3 (by kernel_rfl) (hval 0 51 v0 rfl rfl) h0
  clear hA0 hval0
  have hlt : ∀ x ∈ p0, x.block < W.heap.size := fun x hx => hW'.lt x (by simp [hx])
  have walk : Calls Try.prog 4 #[.slice ao zs.length cap, .int .u8 a1, .int .u8 a2] W fun e w' => e = .returned (.bool true) ∧ Turned [] W w' := by
    by_cases hn : zs.length ≤ 80
    · exact forder_walk ao b off zs.length cap (fun i => zs.getD i 0) a1 a2 W hn hao hD (u8_low w1) (u8_low w2)
    · exact forder_long ao zs.length cap a1 a2 W (by omega) hm
  refine walk.mono fun e W' ⟨he, ht⟩ => ?_
  have hb : Below W.heap.size W W' := ht.below (by simp) (Nat.le_refl _)
  subst he
  exact ⟨_, rfl, post_law (pv := []) hW' hb (fun _ _ _ => trodAll_mk1 (shut_bool Try.underlying4 _))
    (trodAll_mk3 (Below.trod laidOut (by kernel_rfl) (of_decide_eq_true (by kernel_rfl)) h0k hb hlt) (shut_int Try.underlying5 w1) (shut_int Try.underlying5 w2)) rfl⟩

theorem fifoOrder_holds : Rows.FifoOrderSaid :=
  OpenClaim.holds_of_wide 4 Try.f4 rfl rfl rfl rfl rfl rfl rfl ⟨rfl, rfl, rfl, rfl, rfl⟩ rfl rfl rfl rfl rfl (by kernel_rfl) Try.func4 (by kernel_rfl)
    (of_decide_eq_true (by kernel_rfl)) (by unfold Func.isWrapper; first | (rw [if_pos (by decide +kernel)]; kernel_rfl) | (rw [if_neg (by decide +kernel)]; exact ⟨rfl, rfl⟩))
    (fun os started H enc _ => forder_lifted os started H enc)
end Go.Proofs.Ytnoiifnknkakoaa
