/-
  The walk of the statement FixqShares: the Go text returns true at every input.
-/
import Derived.Test.YthmniplbckhgaaaFixLaws
import Derived.Test.YthmniplbckhgaaaRefCalls
import Derived.Deep.RegionHeld3
namespace Go.Proofs.Ythmniplbckhgaaa
open Go.RowKit Go.Shelf

theorem keep5 {w0 W W' : World} {b : Nat} {n0 n1 n2 n3 n4 : Int}
    (h : W.cell? ⟨b, 0, none⟩ = some (.int .u64 n0) ∧ W.cell? ⟨b, 1, none⟩ = some (.int .u64 n1) ∧ W.cell? ⟨b, 2, none⟩ = some (.int .u64 n2) ∧ W.cell? ⟨b, 3, none⟩ = some (.int .u64 n3) ∧ W.cell? ⟨b, 4, none⟩ = some (.int .u64 n4) ∧ Below w0.heap.size w0 W)
    (hb : Below W.heap.size W W') :
    W'.cell? ⟨b, 0, none⟩ = some (.int .u64 n0) ∧ W'.cell? ⟨b, 1, none⟩ = some (.int .u64 n1) ∧ W'.cell? ⟨b, 2, none⟩ = some (.int .u64 n2) ∧ W'.cell? ⟨b, 3, none⟩ = some (.int .u64 n3) ∧ W'.cell? ⟨b, 4, none⟩ = some (.int .u64 n4) ∧ Below w0.heap.size w0 W' := by
  obtain ⟨h0, h1, h2, h3, h4, hB⟩ := h
  have hlt := World.block_lt_of_cell? W _ h0
  exact ⟨(hb.cell (p := ⟨b, 0, none⟩) hlt).trans h0, (hb.cell (p := ⟨b, 1, none⟩) hlt).trans h1, (hb.cell (p := ⟨b, 2, none⟩) hlt).trans h2, (hb.cell (p := ⟨b, 3, none⟩) hlt).trans h3, (hb.cell (p := ⟨b, 4, none⟩) hlt).trans h4, hB.trans (hb.mono hB.size)⟩

theorem cmp_back (a b c d : Int) : cmpV c d a b = -(cmpV a b c d) := by
  unfold cmpV
  by_cases h : b = 0 ∨ d = 0
  · rw [if_pos h, if_pos h.symm]; rfl
  · rw [if_neg h, if_neg (fun h' => h h'.symm), ordW_swap]
theorem cmpE_back (b d : Int) : cmpE d b = cmpE b d := by
  unfold cmpE
  by_cases h : b = 0 ∨ d = 0
  · rw [if_pos h, if_pos h.symm]
  · rw [if_neg h, if_neg (fun h' => h h'.symm)]
theorem ordW_bd (x y : Int) : -1 ≤ ordW x y ∧ ordW x y ≤ 1 := by unfold ordW; split <;> (try split) <;> omega
theorem cmp_bd (a b c d : Int) : -1 ≤ cmpV a b c d ∧ cmpV a b c d ≤ 1 := by
  unfold cmpV
  split
  · omega
  · exact ordW_bd _ _

set_option maxRecDepth 100000 in
set_option maxHeartbeats 1600000 in
theorem shares_walk (n0 n1 n2 n3 n4 : Int) (h0 : Word n0) (h1 : Word n1) (h2 : Word n2) (h3 : Word n3) (h4 : Word n4) (w : World) :
    Calls Try.prog 5 #[.agg #[.int .u64 n0, .int .u64 n1, .int .u64 n2, .int .u64 n3, .int .u64 n4]] w fun e w' => e = .returned (.bool true) ∧ Below w.heap.size w w' := by
  have C1 := Lib.hid (compare_any n0 n1 n2 n3 h0 h1 h2 h3)
  have R1 := Lib.hid (refcompare_any n0 n1 n2 n3 h0 h1 h2 h3)
  have C2' := compare_any n2 n3 n0 n1 h2 h3 h0 h1
  rw [cmp_back, cmpE_back] at C2'
  have C2 := Lib.hid C2'
  clear C2'
  obtain ⟨q0, q1⟩ := cmp_bd n0 n1 n2 n3
  generalize cmpV n0 n1 n2 n3 = q at C1 R1 C2 q0 q1
  generalize cmpE n1 n3 = ee at C1 R1 C2
  have N1 := Lib.hid (near_any n0 n1 n2 n3 n4 h0 h1 h2 h3 h4)
  have N2 := Lib.hid (refnear_any n0 n1 n2 n3 n4 h0 h1 h2 h3 h4)
  generalize nearB n0 n1 n2 n3 n4 = nb at N1 N2
  have bw : Below w.heap.size w (w.alloc (.cells #[.int .u64 n0, .int .u64 n1, .int .u64 n2, .int .u64 n3, .int .u64 n4] 33)) := (Below.refl _ _).alloc (Nat.le_refl _) _
  have k0 : (w.alloc (.cells #[.int .u64 n0, .int .u64 n1, .int .u64 n2, .int .u64 n3, .int .u64 n4] 33)).cell? ⟨w.heap.size, 0, none⟩ = some (.int .u64 n0) ∧
      (w.alloc (.cells #[.int .u64 n0, .int .u64 n1, .int .u64 n2, .int .u64 n3, .int .u64 n4] 33)).cell? ⟨w.heap.size, 1, none⟩ = some (.int .u64 n1) ∧
      (w.alloc (.cells #[.int .u64 n0, .int .u64 n1, .int .u64 n2, .int .u64 n3, .int .u64 n4] 33)).cell? ⟨w.heap.size, 2, none⟩ = some (.int .u64 n2) ∧
      (w.alloc (.cells #[.int .u64 n0, .int .u64 n1, .int .u64 n2, .int .u64 n3, .int .u64 n4] 33)).cell? ⟨w.heap.size, 3, none⟩ = some (.int .u64 n3) ∧
      (w.alloc (.cells #[.int .u64 n0, .int .u64 n1, .int .u64 n2, .int .u64 n3, .int .u64 n4] 33)).cell? ⟨w.heap.size, 4, none⟩ = some (.int .u64 n4) ∧
      Below w.heap.size w (w.alloc (.cells #[.int .u64 n0, .int .u64 n1, .int .u64 n2, .int .u64 n3, .int .u64 n4] 33)) :=
    ⟨by simp [go_sem], by simp [go_sem], by simp [go_sem], by simp [go_sem], by simp [go_sem], bw⟩
  have K0 := Lib.hid k0
  clear k0 bw
  go_enter Try.func5, Try.ntmps5
  go_wp2_with fail
  refine (awake_any _).mono ?_
  rintro e w1 ⟨rfl, b1⟩
  have K1 := Lib.hid (keep5 K0.out b1)
  obtain ⟨a0, a1, a2, a3, a4, _⟩ := K1.out
  go_wp2_with fail
  refine (C1.out _).mono ?_
  rintro e w2 ⟨rfl, b2⟩
  have K2 := Lib.hid (keep5 K1.out b2)
  obtain ⟨c0, c1, c2, c3, c4, _⟩ := K2.out
  go_wp2_with fail
  refine (R1.out _).mono ?_
  rintro e w3 ⟨rfl, b3⟩
  have K3 := Lib.hid (keep5 K2.out b3)
  obtain ⟨d0, d1, d2, d3, d4, _⟩ := K3.out
  go_wp2_with fail
  refine (C2.out _).mono ?_
  rintro e w4 ⟨rfl, b4⟩
  have K4 := Lib.hid (keep5 K3.out b4)
  obtain ⟨e0, e1, e2, e3, e4, eb⟩ := K4.out
  have en : IntKind.i64.wrap (-q) = -q := by rw [IntKind.wrap_i64]; omega
  go_wp2
  clear a0 a1 a2 a3 a4 c0 c1 c2 c3 c4 d0 d1 d2 d3 d4 b1 b2 b3 b4 K0 K1 K2 K3
  go_region_held3 (fun w' => w'.cell? ⟨w.heap.size, 0, none⟩ = some (.int .u64 n0) ∧ w'.cell? ⟨w.heap.size, 1, none⟩ = some (.int .u64 n1) ∧ w'.cell? ⟨w.heap.size, 2, none⟩ = some (.int .u64 n2) ∧ w'.cell? ⟨w.heap.size, 3, none⟩ = some (.int .u64 n3) ∧ w'.cell? ⟨w.heap.size, 4, none⟩ = some (.int .u64 n4) ∧ Below w.heap.size w w')
    (first | exact ⟨f0, f1, f2, f3, f4, fb⟩ | exact ⟨e0, e1, e2, e3, e4, eb.drew⟩)
    (first | (go_at_call 21; refine (N1.out _).mono ?_; rintro e w' ⟨rfl, bb⟩; obtain ⟨f0, f1, f2, f3, f4, fb⟩ := keep5 (by assumption) bb) | (go_at_call 22; refine (N2.out _).mono ?_; rintro e w' ⟨rfl, bb⟩; obtain ⟨f0, f1, f2, f3, f4, fb⟩ := keep5 (by assumption) bb))
  all_goals (go_wp2; go_ret; exact ⟨rfl, fb⟩)
end Go.Proofs.Ythmniplbckhgaaa
