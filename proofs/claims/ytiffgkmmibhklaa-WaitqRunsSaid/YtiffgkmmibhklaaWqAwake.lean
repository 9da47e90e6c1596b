/-
  awake, given what is said of the program.
-/
import Derived.Test.YtiffgkmmibhklaaWqExp
namespace Go.Proofs.Ytiffgkmmibhklaa
open Go.RowKit Go.Maps Go.Shelf

/-- Who waits behind k rounds. -/
def awL (k : Nat) : List Wt := (List.range k).map fun i : Nat => ((i : Int) + 1, 7, 10 * ((i : Int) + 1))
theorem awL_step {k : Nat} (hk : k < 3) : waitE 9 9 (awL k) ((k : Int) + 1, 7, 10 * ((k : Int) + 1)) = 0 ∧ waitL 9 9 (awL k) ((k : Int) + 1, 7, 10 * ((k : Int) + 1)) = awL (k + 1) := by
  match k, hk with
  | 0, _ => exact ⟨by decide +kernel, by decide +kernel⟩
  | 1, _ => exact ⟨by decide +kernel, by decide +kernel⟩
  | 2, _ => exact ⟨by decide +kernel, by decide +kernel⟩
theorem awL_two : whoI (awL 3) 2 = 1 ∧ takW (awL 3) 1 = (2, 7, 20) ∧ takLW (awL 3) 1 = [(1, 7, 10), (3, 7, 30)] ∧ wakeO 7 9 [(1, 7, 10), (3, 7, 30)] = [1, 3] ∧ wakeL 7 9 [(1, 7, 10), (3, 7, 30)] = [] := by
  refine ⟨by decide +kernel, by decide +kernel, by decide +kernel, by decide +kernel, by decide +kernel⟩

set_option maxRecDepth 100000 in
set_option maxHeartbeats 3200000 in
theorem awake8 (S : WqSaid) (w : World) : Calls Try.prog 5 #[] w fun r w' => r = .returned (.bool true) ∧ Turned [] w w' := by
  have H0 := Lib.hid (S.new 2 9 9 w ⟨by decide, by decide⟩)
  rw [show min (max (9 : Int) 0) 4096 = 9 by decide] at H0
  go_enter Try.func5, Try.ntmps5
  go_wp2_with fail
  refine H0.out.mono ?_
  rintro e w1 ⟨b, X, rfl, hA, hT, hX⟩
  have H1 := Lib.hid (show ∃ X c, c = 0 * 100 ∧ S.At w1 b X 9 9 c (awL 0) ∧ Turned [] w w1 ∧ ∀ j ∈ X, w.heap.size ≤ j from ⟨X, 0, rfl, hA, hT, hX⟩)
  clear hA hT hX H0
  go_wp2
  go_loopw [2] (fun i wr => ∃ k : Nat, k ≤ 3 ∧ i = .int .i64 ((k : Int) + 1) ∧ Hid (∃ X c, c = k * 100 ∧ S.At wr b X 9 9 c (awL k) ∧ Turned [] w wr ∧ ∀ j ∈ X, w.heap.size ≤ j)) (fun i _ => 4 - (intOf i).toNat)
  case atStart => exact ⟨0, by omega, rfl, H1⟩
  case round =>
    obtain ⟨k, hk, rfl, HA⟩ := hrel
    obtain ⟨X1, c, rfl, hA, hT, hX⟩ := HA.out
    by_cases hlt : k < 3
    · have i1 : (k : Int) + 1 < 4 := by omega
      have d1 : decide ((k : Int) + 1 < 4) = true := by simp; omega
      have hst := awL_step hlt
      have hll : (awL k).length ≤ 100 := by simp [awL]; omega
      have HW := Lib.hid (S.wait ((k : Int) + 1, 7, 10 * ((k : Int) + 1)) hA ⟨⟨by simp only; omega, by simp only; omega⟩, ⟨by simp only; omega, by simp only; omega⟩, by simp only; omega, by simp only; omega⟩ hll (by omega))
      rw [hst.1, hst.2] at HW
      simp only [aggW] at HW
      have HT := Lib.hid hT
      have HX := Lib.hid hX
      have w1 : IntKind.i64.wrap (10 * ((k : Int) + 1)) = 10 * ((k : Int) + 1) := by rw [IntKind.wrap_i64]; omega
      have w2 : IntKind.u64.wrap (10 * ((k : Int) + 1)) = 10 * ((k : Int) + 1) := by rw [IntKind.wrap_u64]; omega
      have w3 : IntKind.i64.wrap ((k : Int) + 1 + 1) = (k : Int) + 1 + 1 := by rw [IntKind.wrap_i64]; omega
      clear hst hll hA hT hX HA
      go_wp2_with fail
      with_reducible refine HW.out.mono ?_
      rintro e w2 ⟨rfl, X2, q1, q2, q3⟩
      have HN := Lib.hid (show ∃ X c, c = (k + 1) * 100 ∧ S.At w2 b X 9 9 c (awL (k + 1)) ∧ Turned [] w w2 ∧ ∀ j ∈ X, w.heap.size ≤ j from
        ⟨X2, _, by omega, q1, HT.out.trans q2 (fun j hj => .inr (HX.out j hj)), fun j hj => by
          rcases q3 j hj with h | h
          · exact HX.out j h
          · have := HT.out.size; omega⟩)
      clear q1 q2 q3
      go_wp2
      go_roundw
      case rel => exact ⟨k + 1, by omega, by simp, HN⟩
      case measure => simp [intOf]; omega
    · obtain rfl : k = 3 := by omega
      obtain ⟨e1, e2, e3, e4, e5⟩ := awL_two
      have HC := Lib.hid (S.cancel 2 hA ⟨by decide, by decide⟩ (by simp [awL]) (by omega))
      rw [e1, e2, e3] at HC
      simp only [aggW, show decide ((0 : Int) ≤ 1) = true by decide] at HC
      have HT := Lib.hid hT
      have HX := Lib.hid hX
      clear hA hT hX HA hk e1 e2 e3
      go_wp2_with fail
      with_reducible refine HC.out.mono ?_
      rintro e w2 ⟨rfl, X2, q1, q2, q3⟩
      have t2 : Turned [] w w2 := HT.out.trans q2 (fun j hj => .inr (HX.out j hj))
      have x2 : ∀ j ∈ X2, w.heap.size ≤ j := fun j hj => by
        rcases q3 j hj with h | h
        · exact HX.out j h
        · have := HT.out.size; omega
      have hx2 := S.lt q1
      obtain ⟨V, hV⟩ : ∃ V, w2.alloc (.cells #[.int .i64 2, .int .i64 7, .int .u64 20] tW) = V := ⟨_, rfl⟩
      have tV : Turned [] w2 V := hV ▸ (Turned.refl [] w2).alloc _
      have hbox : V.heap[w2.heap.size]? = some (.cells #[.int .i64 2, .int .i64 7, .int .u64 20] tW (0, 0)) := hV ▸ heap_alloc_new w2 _
      have HWk := Lib.hid (S.wake 7 9 (S.keep q1 tV (by simp)) ⟨by decide, by decide⟩ ⟨by decide, by decide⟩ (by decide) (by omega))
      rw [show Int.toNat 9 = 9 from rfl, e4, e5] at HWk
      have HV := Lib.hid hV
      have HB := Lib.hid hbox
      have T2 := Lib.hid (t2.trans tV (Newer.refl _ _))
      have HX2 := Lib.hid x2
      have HX2l := Lib.hid hx2
      clear q1 q2 q3 t2 x2 hV tV hbox hx2 e4 e5 HC
      go_wp2_with fail
      rw [HV.out]
      refine HWk.out.mono ?_
      rintro e w3 ⟨v, rfl, hrow, X3, q1, q2, q3⟩
      obtain ⟨g, cap, rfl, _, _⟩ := ownsRow_pos hrow (by decide)
      have rc0 := hrow.cells (g := g) rfl 0 (.int .i64 1) rfl
      have rc1 := hrow.cells (g := g) rfl 1 (.int .i64 3) rfl
      have r0 : w3.cell? ⟨g, 0, none⟩ = some (.int .i64 1) := by simpa [Addr.add] using rc0
      have r1 : w3.cell? ⟨g, 1, none⟩ = some (.int .i64 3) := by simpa [Addr.add] using rc1
      have hb3 := q2.same HB.out (fun hx => by have := HX2l.out _ hx; omega)
      obtain ⟨k0, k1, k2, _⟩ := cellsT hb3
      have HL := Lib.hid (S.len q1)
      have T3 := Lib.hid (T2.out.trans q2 (fun j hj => .inr (HX2.out j hj)))
      simp only [List.length_nil, List.length_cons, Nat.reduceAdd, show ((0 : Nat) : Int) = 0 from rfl] at HL ⊢
      clear rc0 rc1 hrow q1 q2 q3 hb3 HWk
      go_wp2_with fail
      with_reducible refine HL.out.mono ?_
      rintro e w4 ⟨rfl, n4, rfl⟩
      go_wp2
      go_ret
      exact ⟨rfl, T3.out.drewN n4⟩
end Go.Proofs.Ytiffgkmmibhklaa
