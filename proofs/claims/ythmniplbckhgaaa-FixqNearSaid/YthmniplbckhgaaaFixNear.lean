/-
  The walk of the statement FixqNear: the Go text returns true at every input.
-/
import Derived.Test.YthmniplbckhgaaaFixLaws
namespace Go.Proofs.Ythmniplbckhgaaa
open Go.RowKit Go.Shelf

/-- Four cells of one block. -/
structure Has4 (w : World) (b : Nat) (n0 n1 n2 n3 : Int) : Prop where
  lt : b < w.heap.size
  c0 : w.cell? ⟨b, 0, none⟩ = some (.int .u64 n0)
  c1 : w.cell? ⟨b, 1, none⟩ = some (.int .u64 n1)
  c2 : w.cell? ⟨b, 2, none⟩ = some (.int .u64 n2)
  c3 : w.cell? ⟨b, 3, none⟩ = some (.int .u64 n3)
theorem Has4.below {w w' : World} {b : Nat} {n0 n1 n2 n3 : Int} (h : Has4 w b n0 n1 n2 n3) (hb : Below w.heap.size w w') : Has4 w' b n0 n1 n2 n3 :=
  ⟨Nat.lt_of_lt_of_le h.lt hb.size, (hb.cell (p := ⟨b, 0, none⟩) h.lt).trans h.c0, (hb.cell (p := ⟨b, 1, none⟩) h.lt).trans h.c1, (hb.cell (p := ⟨b, 2, none⟩) h.lt).trans h.c2, (hb.cell (p := ⟨b, 3, none⟩) h.lt).trans h.c3⟩

theorem near_more {a w t all k m : Int} (hl : 0 ≤ all) (hm : 0 ≤ m) (h : nearB a w t all k = true) : nearB a w t all (k + m) = true := by
  unfold nearB at *
  have h1 := of_decide_eq_true h
  have h2 := Int.mul_nonneg hm hl
  refine decide_eq_true ?_
  rw [Int.add_mul]
  omega
theorem near_self (a b : Int) : nearB a b a b 0 = true := by
  unfold nearB dist
  refine decide_eq_true ?_
  rw [Int.mul_comm b a]
  simp
theorem near_same (a b : Int) : nearB a a b b 0 = true := by
  unfold nearB dist
  refine decide_eq_true ?_
  simp

theorem near_yes {a w t all k : Int} (ha : Word a) (hw : Word w) (ht : Word t) (hl : Word all) (hk : Word k) (h : nearB a w t all k = true) (W : World) :
    Calls Try.prog 21 #[.int .u64 a, .int .u64 w, .int .u64 t, .int .u64 all, .int .u64 k] W fun e w' => e = .returned (.bool true) ∧ Below W.heap.size W w' := by
  have N := near_any a w t all k ha hw ht hl hk W
  rw [h] at N
  exact N
theorem near_no {a w t all k : Int} (ha : Word a) (hw : Word w) (ht : Word t) (hl : Word all) (hk : Word k) (h : nearB a w t all k = false) (W : World) :
    Calls Try.prog 21 #[.int .u64 a, .int .u64 w, .int .u64 t, .int .u64 all, .int .u64 k] W fun e w' => e = .returned (.bool false) ∧ Below W.heap.size W w' := by
  have N := near_any a w t all k ha hw ht hl hk W
  rw [h] at N
  exact N

theorem has4_new (w : World) (n0 n1 n2 n3 : Int) : Has4 (w.alloc (.cells #[.int .u64 n0, .int .u64 n1, .int .u64 n2, .int .u64 n3] 40)) w.heap.size n0 n1 n2 n3 :=
  ⟨by simp, by simp [go_sem], by simp [go_sem], by simp [go_sem], by simp [go_sem]⟩

set_option maxHeartbeats 800000 in
theorem near_walk (n0 n1 n2 n3 k more : Int) (h0 : Word n0) (h1 : Word n1) (h2 : Word n2) (h3 : Word n3) (hk : Word k) (hm : Word more) (w : World) :
    Calls Try.prog 7 #[.agg #[.int .u64 n0, .int .u64 n1, .int .u64 n2, .int .u64 n3], .int .u64 k, .int .u64 more] w fun e w' => e = .returned (.bool true) ∧ Below w.heap.size w w' := by
  have hz : Word 0 := by unfold Word; omega
  have HN3 := Lib.hid (near_yes h0 h1 h0 h1 hz (near_self n0 n1))
  have HN4 := Lib.hid (near_yes h0 h0 h1 h1 hz (near_same n0 n1))
  have bw : Below w.heap.size w (w.alloc (.cells #[.int .u64 n0, .int .u64 n1, .int .u64 n2, .int .u64 n3] 40)) := (Below.refl _ _).alloc (Nat.le_refl _) _
  have s0 : w.heap.size ≤ (w.alloc (.cells #[.int .u64 n0, .int .u64 n1, .int .u64 n2, .int .u64 n3] 40)).heap.size := bw.size
  by_cases hf : k + more ≤ 18446744073709551615
  · have hfar : Word (k + more) := ⟨by have := hk.1; have := hm.1; omega, hf⟩
    have HA := Lib.hid (add_fit k more hk hm hf)
    cases hn : nearB n0 n1 n2 n3 k with
    | true =>
      have HN1 := Lib.hid (near_yes h0 h1 h2 h3 hk hn)
      have HN2 := Lib.hid (near_yes h0 h1 h2 h3 hfar (near_more h3.1 hm.1 hn))
      clear hn hf
      go_enter Try.func7, Try.ntmps7
      go_wp2_with fail
      refine (awake_any _).mono ?_
      rintro e w1 ⟨rfl, hb1⟩
      have H1 := (has4_new w n0 n1 n2 n3).below hb1
      have H1' := H1
      obtain ⟨_, a0, a1, a2, a3⟩ := H1'
      go_wp2_with fail
      refine (HA.out _).mono ?_
      rintro e w2 ⟨rfl, rfl⟩
      go_wp2_with fail
      refine (HN1.out _).mono ?_
      rintro e w3 ⟨rfl, hb3⟩
      have H3 := H1.below hb3
      have H3' := H3
      obtain ⟨_, b0, b1, b2, b3⟩ := H3'
      go_wp2_with fail
      refine (HN2.out _).mono ?_
      rintro e w4 ⟨rfl, hb4⟩
      have H4 := H3.below hb4
      have H4' := H4
      obtain ⟨_, c0, c1, c2, c3⟩ := H4'
      go_wp2_with fail
      refine (HN3.out _).mono ?_
      rintro e w5 ⟨rfl, hb5⟩
      have H5 := H4.below hb5
      have H5' := H5
      obtain ⟨_, d0, d1, d2, d3⟩ := H5'
      go_wp2_with fail
      refine (HN4.out _).mono ?_
      rintro e w6 ⟨rfl, hb6⟩
      go_wp2
      go_ret
      have z1 := hb1.size
      have z3 := hb3.size
      have z4 := hb4.size
      have z5 := hb5.size
      exact ⟨rfl, ((((bw.trans (hb1.mono s0)).trans (hb3.mono (by omega))).trans (hb4.mono (by omega))).trans (hb5.mono (by omega))).trans (hb6.mono (by omega))⟩
    | false =>
      have HN1 := Lib.hid (near_no h0 h1 h2 h3 hk hn)
      clear hn hf
      go_enter Try.func7, Try.ntmps7
      go_wp2_with fail
      refine (awake_any _).mono ?_
      rintro e w1 ⟨rfl, hb1⟩
      have H1 := (has4_new w n0 n1 n2 n3).below hb1
      have H1' := H1
      obtain ⟨_, a0, a1, a2, a3⟩ := H1'
      go_wp2_with fail
      refine (HA.out _).mono ?_
      rintro e w2 ⟨rfl, rfl⟩
      go_wp2_with fail
      refine (HN1.out _).mono ?_
      rintro e w3 ⟨rfl, hb3⟩
      have H3 := H1.below hb3
      have H3' := H3
      obtain ⟨_, b0, b1, b2, b3⟩ := H3'
      go_wp2_with fail
      refine (HN3.out _).mono ?_
      rintro e w5 ⟨rfl, hb5⟩
      have H5 := H3.below hb5
      have H5' := H5
      obtain ⟨_, d0, d1, d2, d3⟩ := H5'
      go_wp2_with fail
      refine (HN4.out _).mono ?_
      rintro e w6 ⟨rfl, hb6⟩
      go_wp2
      go_ret
      have z1 := hb1.size
      have z3 := hb3.size
      have z5 := hb5.size
      exact ⟨rfl, (((bw.trans (hb1.mono s0)).trans (hb3.mono (by omega))).trans (hb5.mono (by omega))).trans (hb6.mono (by omega))⟩
  · have A := add_any k more hk hm
    rw [satV_big hf, satE_big hf] at A
    have HA := Lib.hid A
    clear A hf
    go_enter Try.func7, Try.ntmps7
    go_wp2_with fail
    refine (awake_any _).mono ?_
    rintro e w1 ⟨rfl, hb1⟩
    have H1 := (has4_new w n0 n1 n2 n3).below hb1
    have H1' := H1
    obtain ⟨_, a0, a1, a2, a3⟩ := H1'
    go_wp2_with fail
    refine (HA.out _).mono ?_
    rintro e w2 ⟨rfl, rfl⟩
    go_wp2
    go_ret
    exact ⟨rfl, bw.trans (hb1.mono s0)⟩
end Go.Proofs.Ythmniplbckhgaaa
