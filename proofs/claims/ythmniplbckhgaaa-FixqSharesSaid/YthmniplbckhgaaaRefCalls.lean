/-
  What the reference's Add, Sub, Mul, Compare and Near answer, at every argument.
-/
import Derived.Test.YthmniplbckhgaaaRefTimes
import Derived.Test.YthmniplbckhgaaaRefLess
namespace Go.Proofs.Ythmniplbckhgaaa
open Go.RowKit Go.Shelf

set_option maxHeartbeats 800000 in
theorem refadd_any (a b : Int) (ha : Word a) (hb : Word b) (w : World) :
    Calls Try.prog 10 #[.int .u64 a, .int .u64 b] w fun e w' => e = .returned (.tuple #[.int .u64 (satV (a + b)), .int .i64 (satE (a + b))]) ∧ Below w.heap.size w w' := by
  have N1 := Lib.hid (number_any a ha)
  have N2 := Lib.hid (number_any b hb)
  go_enter Try.func10, Try.ntmps10
  go_wp2_with fail
  refine (N1.out _).mono ?_
  rintro e w1 ⟨v1, rfl, n1, b1⟩
  go_wp2_with fail
  refine (N2.out _).mono ?_
  rintro e w2 ⟨v2, rfl, n2, b2⟩
  have S := Lib.hid (sum_any (n1.below b2) n2 (by omega) (by omega))
  go_wp2_with fail
  refine S.out.mono ?_
  rintro e w3 ⟨v3, rfl, n3, b3⟩
  have F := Lib.hid (fits_any n3 (by omega))
  go_wp2_with fail
  refine F.out.mono ?_
  rintro e w4 ⟨rfl, rfl⟩
  go_wp2
  go_ret2
  have z1 := b1.size
  have z2 := b2.size
  exact ⟨rfl, (b1.trans (b2.mono z1)).trans (b3.mono (by omega))⟩

set_option maxHeartbeats 400000 in
theorem refsub_any (a b : Int) (ha : Word a) (hb : Word b) (w : World) :
    Calls Try.prog 12 #[.int .u64 a, .int .u64 b] w fun e w' => e = .returned (.tuple #[.int .u64 (subV a b), .int .i64 (subE a b)]) ∧ w = w' := by
  obtain ⟨a0, a1⟩ := ha
  obtain ⟨b0, b1⟩ := hb
  by_cases h : a < b
  · rw [show subV a b = 0 from if_pos h, show subE a b = 2 from if_pos h]
    go_enter Try.func12, Try.ntmps12
    go_wp2
    go_ret2
    exact ⟨rfl, rfl⟩
  · rw [show subV a b = a - b from if_neg h, show subE a b = 0 from if_neg h]
    go_enter Try.func12, Try.ntmps12
    go_wp2
    go_ret2
    exact ⟨rfl, rfl⟩

set_option maxHeartbeats 800000 in
theorem refmul_any (a b : Int) (ha : Word a) (hb : Word b) (w : World) :
    Calls Try.prog 14 #[.int .u64 a, .int .u64 b] w fun e w' => e = .returned (.tuple #[.int .u64 (satV (a * b)), .int .i64 (satE (a * b))]) ∧ Below w.heap.size w w' := by
  have N1 := Lib.hid (number_any a ha)
  have N2 := Lib.hid (number_any b hb)
  go_enter Try.func14, Try.ntmps14
  go_wp2_with fail
  refine (N1.out _).mono ?_
  rintro e w1 ⟨v1, rfl, n1, b1⟩
  go_wp2_with fail
  refine (N2.out _).mono ?_
  rintro e w2 ⟨v2, rfl, n2, b2⟩
  have S := Lib.hid (times_any (n1.below b2) n2 (by omega) (by omega))
  go_wp2_with fail
  refine S.out.mono ?_
  rintro e w3 ⟨v3, rfl, n3, b3⟩
  have F := Lib.hid (fits_any n3 (by omega))
  go_wp2_with fail
  refine F.out.mono ?_
  rintro e w4 ⟨rfl, rfl⟩
  go_wp2
  go_ret2
  have z1 := b1.size
  have z2 := b2.size
  exact ⟨rfl, (b1.trans (b2.mono z1)).trans (b3.mono (by omega))⟩

set_option maxHeartbeats 800000 in
theorem refcompare_any (a b c d : Int) (ha : Word a) (hb : Word b) (hc : Word c) (hd : Word d) (w : World) :
    Calls Try.prog 20 #[.int .u64 a, .int .u64 b, .int .u64 c, .int .u64 d] w fun e w' => e = .returned (.tuple #[.int .i64 (cmpV a b c d), .int .i64 (cmpE b d)]) ∧ Below w.heap.size w w' := by
  by_cases h1 : b = 0
  · subst h1
    rw [show cmpV a 0 c d = 0 from if_pos (.inl rfl), show cmpE 0 d = 1 from if_pos (.inl rfl)]
    go_enter Try.func20, Try.ntmps20
    go_wp2
    go_ret2
    exact ⟨rfl, Below.refl _ _⟩
  · by_cases h2 : d = 0
    · subst h2
      rw [show cmpV a b c 0 = 0 from if_pos (.inr rfl), show cmpE b 0 = 1 from if_pos (.inr rfl)]
      go_enter Try.func20, Try.ntmps20
      go_wp2
      go_ret2
      exact ⟨rfl, Below.refl _ _⟩
    · rw [show cmpV a b c d = ordW (a * d) (c * b) from if_neg (by omega), show cmpE b d = 0 from if_neg (by omega), Int.mul_comm c b]
      have t1 : (b == 0) = false := by simpa using h1
      have t2 : (d == 0) = false := by simpa using h2
      have N1 := Lib.hid (number_any a ha)
      have N2 := Lib.hid (number_any d hd)
      have N3 := Lib.hid (number_any b hb)
      have N4 := Lib.hid (number_any c hc)
      go_enter Try.func20, Try.ntmps20
      go_wp2_with fail
      refine (N1.out _).mono ?_
      rintro e w1 ⟨v1, rfl, n1, b1⟩
      go_wp2_with fail
      refine (N2.out _).mono ?_
      rintro e w2 ⟨v2, rfl, n2, b2⟩
      have S := Lib.hid (times_any (n1.below b2) n2 (by omega) (by omega))
      go_wp2_with fail
      refine S.out.mono ?_
      rintro e w3 ⟨v3, rfl, n3, b3⟩
      go_wp2_with fail
      refine (N3.out _).mono ?_
      rintro e w4 ⟨v4, rfl, n4, b4⟩
      go_wp2_with fail
      refine (N4.out _).mono ?_
      rintro e w5 ⟨v5, rfl, n5, b5⟩
      have S2 := Lib.hid (times_any (n4.below b5) n5 (by omega) (by omega))
      go_wp2_with fail
      refine S2.out.mono ?_
      rintro e w6 ⟨v6, rfl, n6, b6⟩
      have F := Lib.hid (less_any (((n3.below b4).below b5).below b6) n6 (by omega) (by omega))
      go_wp2_with fail
      refine F.out.mono ?_
      rintro e w7 ⟨rfl, rfl⟩
      go_wp2
      go_ret2
      have z1 := b1.size
      have z2 := b2.size
      have z3 := b3.size
      have z4 := b4.size
      have z5 := b5.size
      exact ⟨rfl, ((((b1.trans (b2.mono z1)).trans (b3.mono (by omega))).trans (b4.mono (by omega))).trans (b5.mono (by omega))).trans (b6.mono (by omega))⟩

set_option maxHeartbeats 1600000 in
theorem refnear_any (a w t all k : Int) (ha : Word a) (hw : Word w) (ht : Word t) (hl : Word all) (hk : Word k) (W : World) :
    Calls Try.prog 22 #[.int .u64 a, .int .u64 w, .int .u64 t, .int .u64 all, .int .u64 k] W fun e w' => e = .returned (.bool (nearB a w t all k)) ∧ Below W.heap.size W w' := by
  have N1 := Lib.hid (number_any a ha)
  have N2 := Lib.hid (number_any all hl)
  have N3 := Lib.hid (number_any w hw)
  have N4 := Lib.hid (number_any t ht)
  have N5 := Lib.hid (number_any k hk)
  have fin : ∀ Z : Int, Z = dist (a * all) (w * t) → nearB a w t all k = decide (ordW Z (k * all) ≤ 0) := fun Z hZ => by
    rw [hZ]
    unfold nearB
    exact decide_eq_decide.2 ordW_le.symm
  have HF := Lib.hid fin
  clear fin
  by_cases hlt : a * all < w * t
  · have t1 : (ordW (a * all) (w * t) < 0) = True := by rw [ordW_lt hlt]; simp
    have HD : Hid (dist (a * all) (w * t) = w * t - a * all) := if_pos hlt
    have hle : Hid (a * all ≤ w * t) := Int.le_of_lt hlt
    clear hlt
    go_enter Try.func22, Try.ntmps22
    go_wp2_with fail
    refine (N1.out _).mono ?_
    rintro e w1 ⟨v1, rfl, n1, b1⟩
    go_wp2_with fail
    refine (N2.out _).mono ?_
    rintro e w2 ⟨v2, rfl, n2, b2⟩
    have S := Lib.hid (times_any (n1.below b2) n2 (by omega) (by omega))
    go_wp2_with fail
    refine S.out.mono ?_
    rintro e w3 ⟨v3, rfl, n3, b3⟩
    go_wp2_with fail
    refine (N3.out _).mono ?_
    rintro e w4 ⟨v4, rfl, n4, b4⟩
    go_wp2_with fail
    refine (N4.out _).mono ?_
    rintro e w5 ⟨v5, rfl, n5, b5⟩
    have S2 := Lib.hid (times_any (n4.below b5) n5 (by omega) (by omega))
    go_wp2_with fail
    refine S2.out.mono ?_
    rintro e w6 ⟨v6, rfl, n6, b6⟩
    have n3' := ((n3.below b4).below b5).below b6
    have M1 := Lib.hid (minus_any n3' n6 (by omega) (by omega))
    go_wp2_with fail
    refine M1.out.mono ?_
    rintro e w7 ⟨v7, Z7, rfl, n7, _, b7⟩
    have L1 := Lib.hid (less_any (n3'.below b7) (n6.below b7) (by omega) (by omega))
    go_wp2_with fail
    refine L1.out.mono ?_
    rintro e w8 ⟨rfl, rfl⟩
    have M2 := Lib.hid (minus_any (n6.below b7) (n3'.below b7) (by omega) (by omega))
    go_wp2_with fail
    refine M2.out.mono ?_
    rintro e w9 ⟨v9, Z9, rfl, n9, h9, b9⟩
    have hz9 := Lib.hid (HF.out Z9 ((h9 hle.out).trans HD.out.symm))
    clear h9
    go_wp2_with fail
    refine (N5.out _).mono ?_
    rintro e w10 ⟨v10, rfl, n10, b10⟩
    go_wp2_with fail
    refine (N2.out _).mono ?_
    rintro e w11 ⟨v11, rfl, n11, b11⟩
    have S3 := Lib.hid (times_any (n10.below b11) n11 (by omega) (by omega))
    go_wp2_with fail
    refine S3.out.mono ?_
    rintro e w12 ⟨v12, rfl, n12, b12⟩
    have L2 := Lib.hid (less_any (((n9.below b10).below b11).below b12) n12 (by omega) (by omega))
    go_wp2_with fail
    refine L2.out.mono ?_
    rintro e w13 ⟨rfl, rfl⟩
    go_wp2
    go_ret
    have z1 := b1.size
    have z2 := b2.size
    have z3 := b3.size
    have z4 := b4.size
    have z5 := b5.size
    have z6 := b6.size
    have z7 := b7.size
    have z9 := b9.size
    have z10 := b10.size
    have z11 := b11.size
    rw [hz9.out]
    exact ⟨rfl, (((((((((b1.trans (b2.mono z1)).trans (b3.mono (by omega))).trans (b4.mono (by omega))).trans (b5.mono (by omega))).trans (b6.mono (by omega))).trans (b7.mono (by omega))).trans (b9.mono (by omega))).trans (b10.mono (by omega))).trans (b11.mono (by omega))).trans (b12.mono (by omega))⟩
  · have t1 : (ordW (a * all) (w * t) < 0) = False := by
      have := ordW_ge hlt
      simp; omega
    have HD : Hid (dist (a * all) (w * t) = a * all - w * t) := if_neg hlt
    have hle : Hid (w * t ≤ a * all) := Int.not_lt.1 hlt
    clear hlt
    go_enter Try.func22, Try.ntmps22
    go_wp2_with fail
    refine (N1.out _).mono ?_
    rintro e w1 ⟨v1, rfl, n1, b1⟩
    go_wp2_with fail
    refine (N2.out _).mono ?_
    rintro e w2 ⟨v2, rfl, n2, b2⟩
    have S := Lib.hid (times_any (n1.below b2) n2 (by omega) (by omega))
    go_wp2_with fail
    refine S.out.mono ?_
    rintro e w3 ⟨v3, rfl, n3, b3⟩
    go_wp2_with fail
    refine (N3.out _).mono ?_
    rintro e w4 ⟨v4, rfl, n4, b4⟩
    go_wp2_with fail
    refine (N4.out _).mono ?_
    rintro e w5 ⟨v5, rfl, n5, b5⟩
    have S2 := Lib.hid (times_any (n4.below b5) n5 (by omega) (by omega))
    go_wp2_with fail
    refine S2.out.mono ?_
    rintro e w6 ⟨v6, rfl, n6, b6⟩
    have n3' := ((n3.below b4).below b5).below b6
    have M1 := Lib.hid (minus_any n3' n6 (by omega) (by omega))
    go_wp2_with fail
    refine M1.out.mono ?_
    rintro e w7 ⟨v7, Z7, rfl, n7, h7, b7⟩
    have hz7 := Lib.hid (HF.out Z7 ((h7 hle.out).trans HD.out.symm))
    clear h7
    have L1 := Lib.hid (less_any (n3'.below b7) (n6.below b7) (by omega) (by omega))
    go_wp2_with fail
    refine L1.out.mono ?_
    rintro e w8 ⟨rfl, rfl⟩
    go_wp2_with fail
    refine (N5.out _).mono ?_
    rintro e w10 ⟨v10, rfl, n10, b10⟩
    go_wp2_with fail
    refine (N2.out _).mono ?_
    rintro e w11 ⟨v11, rfl, n11, b11⟩
    have S3 := Lib.hid (times_any (n10.below b11) n11 (by omega) (by omega))
    go_wp2_with fail
    refine S3.out.mono ?_
    rintro e w12 ⟨v12, rfl, n12, b12⟩
    have L2 := Lib.hid (less_any (((n7.below b10).below b11).below b12) n12 (by omega) (by omega))
    go_wp2_with fail
    refine L2.out.mono ?_
    rintro e w13 ⟨rfl, rfl⟩
    go_wp2
    go_ret
    have z1 := b1.size
    have z2 := b2.size
    have z3 := b3.size
    have z4 := b4.size
    have z5 := b5.size
    have z6 := b6.size
    have z7 := b7.size
    have z10 := b10.size
    have z11 := b11.size
    rw [hz7.out]
    exact ⟨rfl, ((((((((b1.trans (b2.mono z1)).trans (b3.mono (by omega))).trans (b4.mono (by omega))).trans (b5.mono (by omega))).trans (b6.mono (by omega))).trans (b7.mono (by omega))).trans (b10.mono (by omega))).trans (b11.mono (by omega))).trans (b12.mono (by omega))⟩
end Go.Proofs.Ythmniplbckhgaaa
