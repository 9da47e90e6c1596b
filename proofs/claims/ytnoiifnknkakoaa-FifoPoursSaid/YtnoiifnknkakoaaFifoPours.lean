/-
  FifoPours: whatever is pushed into two queues and poured over from the one to the other, the law answers true; what came in reads as it did. No condition.
-/
import Derived.Test.YtnoiifnknkakoaaArRow
import Derived.Test.YtnoiifnknkakoaaFfPours
import Derived.Test.YtnoiifnknkakoaaFqPour
import Derived.Test.YtnoiifnknkakoaaFqAwake
namespace Go.Proofs.Ytnoiifnknkakoaa
open Go.ChangeShapes Go.WideShapes Go.ChangeAt Go.RowKit Go.Deep

/-- A slice of integers: its cells, its room. -/
theorem open_nums_cap {H : Type} {enc : TypeId × Value → H} {P : Program} {w : World} {base : Nat} {held : Bool} {t e : TypeId} (ht : P.underlying t = some (.slice e)) (he : P.underlying e = some (.int .i64)) (hC : P.cellsOf e = 1) {v : Value} {d : DataW H} {p : List MemPlace} {r : Reach} {b0 : Nat}
    (hok : Value.okWide P w r b0 t v) (h : DataW.Trod enc P w base (fun _ => true) held t v d p) :
    ∃ (ao : Option Addr) (b off cap : Nat) (zs : List Int), v = .slice ao zs.length cap ∧ zs.length ≤ maxLen ∧ zs.length ≤ cap ∧ (ao = none → zs.length = 0 ∧ cap = 0) ∧ (0 < zs.length → ao = some ⟨b, off, none⟩ ∧ b < w.heap.size) ∧ ∀ i, i < zs.length → w.cell? ⟨b, off + i, none⟩ = some (.int .i64 (zs.getD i 0)) := by
  obtain ⟨fuel, hf⟩ := h
  obtain ⟨a', len', cap', rfl⟩ := okWide_slice ht hok
  rcases open_ints ht he hC hf with ⟨hcs, _⟩ | ⟨a, len, cap, zs, hcs, _, hl, hm, hlen, _, hc, _⟩
  · have hv : Value.slice a' len' cap' = .slice none 0 0 := by simpa [Value.cells] using hcs
    exact ⟨none, 0, 0, 0, [], hv, by simp, by simp, fun _ => by simp, fun h => by simp at h, fun i h => by simp at h⟩
  · have hv : Value.slice a' len' cap' = .slice (some a) len cap := by simpa [Value.cells] using hcs
    simp only [if_true] at hlen
    have hzl : (zs.take len).length = len := by simp; omega
    by_cases h0 : 0 < len
    · have c0 := hc 0 (by omega)
      have ha0 : a.add 0 = a := by
        unfold Addr.add
        simp
      rw [ha0] at c0
      obtain ⟨b, off, rfl, hbl⟩ := spot_none c0
      refine ⟨_, b, off, cap, zs.take len, by rw [hzl]; exact hv, by omega, by omega, (fun h => by cases h), fun _ => ⟨rfl, hbl⟩, fun i hi => ?_⟩
      rw [hzl] at hi
      have hci := hc i (by omega)
      rw [Addr.add_lit] at hci
      rw [hci]
      simp [hi]
    · refine ⟨some a, 0, 0, cap, zs.take len, by rw [hzl]; exact hv, by omega, by omega, (fun h => by cases h), fun h => by omega, fun i hi => by omega⟩

set_option maxRecDepth 100000 in
set_option maxHeartbeats 1000000 in
theorem pours_long (HA : Awake5) (ao bo : Option Addr) (na nb acap bcap : Nat) (n : Int) (w : World) (h : 40 < na ∨ 40 < nb) (hma : na ≤ maxLen) (hmb : nb ≤ maxLen) :
    Calls Try.prog 5 #[.slice ao na acap, .slice bo nb bcap, .int .i64 n] w fun e w' => e = .returned (.bool true) ∧ Turned [] w w' := by
  unfold maxLen at hma hmb
  have AW := Lib.hid HA
  clear HA
  by_cases ha : 40 < na
  · have g1 : (40 : Int) < na := by omega
    clear h ha
    go_enter Try.func5, Try.ntmps5
    go_wp2_with fail
    refine (AW.out w).mono ?_
    rintro e w0 ⟨rfl, t0⟩
    have T0 := Lib.hid t0
    clear t0
    go_wp2
    all_goals
      go_ret
      exact ⟨rfl, T0.out⟩
  · have g1 : ¬ ((40 : Int) < na) := by omega
    have g2 : (40 : Int) < nb := by omega
    clear h ha
    go_enter Try.func5, Try.ntmps5
    go_wp2_with fail
    refine (AW.out w).mono ?_
    rintro e w0 ⟨rfl, t0⟩
    have T0 := Lib.hid t0
    clear t0
    go_wp2
    all_goals
      go_ret
      exact ⟨rfl, T0.out⟩

set_option maxRecDepth 100000 in
theorem pours_lifted (Q : QSaid) (HA : Awake5) (os : Os) (started : os.Started) (H : Type) (enc : TypeId × Value → H) :
    ReturnsInHanded {} Try.checked os 5 .any (Rows.fifoPoursSpec.pre6 enc Try.prog Try.f5 Rows.fifoPoursRow.domain false) (Rows.fifoPoursSpec.post enc Try.prog Try.f5 false true false false) := by
  refine returnsInHanded_of_change (C := Try.checked) own started (by kernel_rfl) Try.func5
    (ChangeSpec.witness6 (enc := enc) (C := Try.checked) false ⟨#[], #[.slice none 0 0, .slice none 0 0, .int .i64 0], []⟩ 8 (by kernel_rfl) (by kernel_rfl) (by kernel_rfl) (by kernel_rfl)) ?_
  intro W base args ds gs before hval0 hW hcnd _
  have hval : ∀ (j : Nat) t v, Try.f5.params[j]? = some t → args[j]? = some v → Value.okWide Try.prog W .any base t v := hval0
  have hW' := hW
  obtain ⟨p, q, hA0, hV, rfl, hfz, hnd⟩ := hW
  have hA : DataW.TrodAll enc Try.prog W 0 (fun _ => true) true Try.f5.params.toList args.toList ds p := hA0
  rw [Try.params5] at hA hval
  obtain ⟨v0, v1, v2, d0, d1, d2, p0, p1, p2, rfl, rfl, rfl, h0, h1, h2⟩ := trodAll_three hA
  obtain ⟨rfl, rfl⟩ := trodVars_none hV
  have h0k := h0
  have h1k := h1
  obtain ⟨a2, rfl, rfl, rfl, w2⟩ := open_int Try.underlying3 (hval 2 3 v2 rfl rfl) h2
  obtain ⟨ao, ab, aoff, acap, za, rfl, hma, hca, hna, hao, hDa⟩ := open_nums_cap Try.underlying51 Try.underlying3 (by kernel_rfl) (hval 0 51 v0 rfl rfl) h0
  obtain ⟨bo, bb, boff, bcap, zb, rfl, hmb, hcb, hnb, hbo, hDb⟩ := open_nums_cap Try.underlying51 Try.underlying3 (by kernel_rfl) (hval 1 51 v1 rfl rfl) h1
  clear hA0 hval0
  have hlt0 : ∀ x ∈ p0, x.block < W.heap.size := fun x hx => hW'.lt x (by simp [hx])
  have hlt1 : ∀ x ∈ p1, x.block < W.heap.size := fun x hx => hW'.lt x (by simp [hx])
  have walk : Calls Try.prog 5 #[.slice ao za.length acap, .slice bo zb.length bcap, .int .i64 a2] W fun e w' => e = .returned (.bool true) ∧ Turned [] W w' := by
    by_cases hn : za.length ≤ 40 ∧ zb.length ≤ 40
    · exact pours_walk Q HA ao bo ab aoff acap bb boff bcap za zb a2 W hn.1 hn.2 hca hcb hao hna hnb hbo hDa hDb
    · exact pours_long HA ao bo za.length zb.length acap bcap a2 W (by omega) hma hmb
  refine walk.mono fun e W' ⟨he, ht⟩ => ?_
  have hb : Below W.heap.size W W' := ht.below (by simp) (Nat.le_refl _)
  subst he
  exact ⟨_, rfl, post_law (pv := []) hW' hb (fun _ _ _ => trodAll_mk1 (shut_bool Try.underlying4 _))
    (trodAll_mk3 (Below.trod laidOut (by kernel_rfl) (of_decide_eq_true (by kernel_rfl)) h0k hb hlt0) (Below.trod laidOut (by kernel_rfl) (of_decide_eq_true (by kernel_rfl)) h1k hb hlt1) (shut_int Try.underlying3 w2)) rfl⟩

theorem fifoPours_of (Q : QSaid) (HA : Awake5) : Rows.FifoPoursSaid :=
  OpenClaim.holds_of_wide 5 Try.f5 rfl rfl rfl rfl rfl rfl rfl ⟨rfl, rfl, rfl, rfl, rfl⟩ rfl rfl rfl rfl rfl (by kernel_rfl) Try.func5 (by kernel_rfl)
    (of_decide_eq_true (by kernel_rfl)) (by unfold Func.isWrapper; first | (rw [if_pos (by decide +kernel)]; kernel_rfl) | (rw [if_neg (by decide +kernel)]; exact ⟨rfl, rfl⟩))
    (fun os started H enc _ => pours_lifted Q HA os started H enc)
theorem fifoPours : Rows.FifoPoursSaid := fifoPours_of queues awake5
end Go.Proofs.Ytnoiifnknkakoaa
