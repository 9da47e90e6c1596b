/-
  The program's Name, mayOp, kindOf.
-/
import Derived.Test.YtmcfjlkjijaflaaDoorPgShape
import Derived.Laws.StructEq
import Derived.Deep.RegionWith
namespace Go.Proofs.YtmcfjlkjijaflaaDoor
open Go.RowKit

theorem shape_field (s : ByteArray) (n a b c d : Int) (w : World) : (Instr.field 83 (.agg #[.string s, .int .i64 n, .int .i64 a, .int .i64 b, .int .i64 c, .int .i64 d]) 0).run Tryd.prog w = .ok (.string s) w := by kernel_rfl
/-- A shape under letters. -/
theorem shape_let (k : Int) : ∃ (s : ByteArray) (n lo hi lo2 hi2 : Int), shC k = #[.string s, .int .i64 n, .int .i64 lo, .int .i64 hi, .int .i64 lo2, .int .i64 hi2] ∧ s.data.toList = nameR k ∧ n = shN k ∧ shA k = (lo, hi) ∧ shB k = (lo2, hi2) :=
  ⟨_, _, _, _, _, _, rfl, rfl, rfl, rfl, rfl⟩
set_option maxRecDepth 100000 in
/-- The first word of ops of any kind. -/
theorem pnm_any (k : Int) (w : World) : Calls Tryd.prog 14 #[.int .i64 k] w fun e w' => e = .returned (.string ⟨(nameR k).toArray⟩) ∧ Below w.heap.size w w' := by
  have h := fun W => shape_any k W
  obtain ⟨s, n, lo, hi, lo2, hi2, e, hs, -⟩ := shape_let k
  have e2 : (⟨(nameR k).toArray⟩ : ByteArray) = s := by rw [← hs]
  rw [e2]
  simp only [e] at h
  have H := Lib.hid h
  have hf := fun W => shape_field s n lo hi lo2 hi2 W
  clear h e hs e2
  go_enter Tryd.func14, Tryd.ntmps14
  go_wp2_with fail
  with_reducible refine (H.out _).mono ?_
  rintro e w1 ⟨rfl, hb⟩
  have HB := Lib.hid hb
  clear hb
  go_wp2
  go_ret
  exact ⟨rfl, HB.out⟩
theorem may_shape (k a b : Int) : opMay (k, a, b) = (!decide (nameR k = []) && ((decide ((shA k).1 ≤ a) && decide (a ≤ (shA k).2)) && (decide ((shB k).1 ≤ b) && decide (b ≤ (shB k).2)))) := by
  have ea : aMay (k, a, b) = (decide ((shA k).1 ≤ a) && decide (a ≤ (shA k).2)) := by
    unfold aMay shA
    simp only
    by_cases h : 0 ≤ (limR k).1
    · rw [if_pos h, if_pos h]
    · rw [if_neg h, if_neg h]
      rw [Bool.eq_iff_iff]
      simp
      omega
  have eb : bMay (k, a, b) = (decide ((shB k).1 ≤ b) && decide (b ≤ (shB k).2)) := by
    unfold bMay shB
    simp only
    by_cases h : k = 5
    · rw [if_pos h, if_pos h]
    · rw [if_neg h, if_neg h]
      rw [Bool.eq_iff_iff]
      simp
      omega
  unfold opMay
  rw [ea, eb]
/-- The boxes of an op and of its shape. -/
theorem two_boxes {w w1 : World} {O S : Obj} (hb : Below (w.alloc O).heap.size (w.alloc O) w1) :
    (w1.alloc S).heap[w.heap.size]? = some O ∧ (w1.alloc S).heap[w1.heap.size]? = some S ∧ Below w.heap.size w (w1.alloc S) ∧ w.heap.size < w1.heap.size := by
  obtain ⟨h1, h2⟩ := box_kept hb
  have hl := lt_of_block h1
  exact ⟨(Below.heap_alloc _ _ _ hl).trans h1, heap_alloc_new _ _, h2.alloc h2.size _, hl⟩
set_option maxRecDepth 100000 in
set_option maxHeartbeats 3200000 in
theorem mayop_any (k a b : Int) (w : World) : Calls Tryd.prog 41 #[.agg #[.int .i64 k, .int .i64 a, .int .i64 b]] w fun e w' => e = .returned (.bool (opMay (k, a, b))) ∧ Below w.heap.size w w' := by
  have h := fun W => shape_any k W
  rw [may_shape]
  obtain ⟨s, n, lo, hi, lo2, hi2, e, hs, -, h1, h2⟩ := shape_let k
  rw [h1, h2, ← hs]
  simp only [e] at h
  have H := Lib.hid h
  have HA := Lib.hid (fun W => has_any lo hi a W)
  have HB := Lib.hid (fun W => has_any lo2 hi2 b W)
  simp only at HA HB ⊢
  obtain ⟨q1, hq1⟩ : ∃ q, (decide (lo ≤ a) && decide (a ≤ hi)) = q := ⟨_, rfl⟩
  obtain ⟨q2, hq2⟩ : ∃ q, (decide (lo2 ≤ b) && decide (b ≤ hi2)) = q := ⟨_, rfl⟩
  rw [hq1] at HA ⊢
  rw [hq2] at HB ⊢
  clear h e h1 h2 hq1 hq2
  rw [← Lib.toList_data]
  by_cases he : s.toList = []
  · have q0 : (s.toList == []) = true := by rw [he]; rfl
    have q3 : s.toList.isEmpty = true := by rw [he]; rfl
    have ee : (!decide (s.toList = []) && (q1 && q2)) = false := by simp [he]
    rw [ee]
    clear ee hs
    go_enter Tryd.func41, Tryd.ntmps41
    go_wp2_with fail
    with_reducible refine (H.out _).mono ?_
    rintro e w1 ⟨rfl, hb⟩
    have HX := Lib.hid (two_boxes (S := .cells #[.string s, .int .i64 n, .int .i64 lo, .int .i64 hi, .int .i64 lo2, .int .i64 hi2] 83) hb)
    clear hb
    go_wp2
    go_ret
    exact ⟨rfl, HX.out.2.2.1⟩
  · have q0 : (s.toList == []) = false := by simpa using he
    have q3 : s.toList.isEmpty = false := by simpa using he
    have ee : (!decide (s.toList = []) && (q1 && q2)) = (q1 && q2) := by simp [he]
    rw [ee]
    clear ee hs
    cases q1 with
    | false =>
      rw [Bool.false_and]
      go_enter Tryd.func41, Tryd.ntmps41
      go_wp2_with fail
      with_reducible refine (H.out _).mono ?_
      rintro e w1 ⟨rfl, hb⟩
      have HX := Lib.hid (two_boxes (S := .cells #[.string s, .int .i64 n, .int .i64 lo, .int .i64 hi, .int .i64 lo2, .int .i64 hi2] 83) hb)
      obtain ⟨hx, _⟩ := box_kept hb
      obtain ⟨c0, c1, c2⟩ := op_cells hx
      have hl := HX.out.2.2.2
      clear hb hx
      go_wp2_with fail
      with_reducible refine (HA.out _).mono ?_
      rintro e w2 ⟨rfl, hb2⟩
      have HB2 := Lib.hid (HX.out.2.2.1.trans (hb2.mono HX.out.2.2.1.size))
      clear hb2
      go_wp2
      go_ret
      exact ⟨rfl, HB2.out⟩
    | true =>
      rw [Bool.true_and]
      go_enter Tryd.func41, Tryd.ntmps41
      go_wp2_with fail
      with_reducible refine (H.out _).mono ?_
      rintro e w1 ⟨rfl, hb⟩
      have HX := Lib.hid (two_boxes (S := .cells #[.string s, .int .i64 n, .int .i64 lo, .int .i64 hi, .int .i64 lo2, .int .i64 hi2] 83) hb)
      obtain ⟨hx, _⟩ := box_kept hb
      obtain ⟨c0, c1, c2⟩ := op_cells hx
      have hl := HX.out.2.2.2
      clear hb hx
      go_wp2_with fail
      with_reducible refine (HA.out _).mono ?_
      rintro e w2 ⟨rfl, hb2⟩
      have HB2 := Lib.hid (HX.out.2.2.1.trans (hb2.mono HX.out.2.2.1.size))
      have hO := (hb2.block _ (lt_of_block HX.out.1)).trans HX.out.1
      have hS := (hb2.block _ (lt_of_block HX.out.2.1)).trans HX.out.2.1
      clear c0 c1 c2 hb2
      obtain ⟨c0, c1, c2⟩ := op_cells hO
      obtain ⟨d0, d1, d2, d3, d4, d5⟩ := six_cells hS
      clear hO hS
      go_wp2_with fail
      with_reducible refine (HB.out _).mono ?_
      rintro e w3 ⟨rfl, hb3⟩
      have HB3 := Lib.hid (HB2.out.trans (hb3.mono HB2.out.size))
      clear hb3
      go_wp2
      go_ret
      exact ⟨rfl, HB3.out⟩
end Go.Proofs.YtmcfjlkjijaflaaDoor
