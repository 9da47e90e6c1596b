/-
  The program's sets: alone, Has, With, Without, Within, Of.
-/
import Derived.Test.YtppdjdlnaohkiaaDoorIdOf
namespace Go.Proofs.YtppdjdlnaohkiaaDoor
open Go.RowKit

/-- The set of i and no other. -/
def aloneN (i : Int) : Nat := if okI i then 2 ^ i.toNat else 0
theorem aloneN_lt (i : Int) : aloneN i < 18446744073709551616 := by
  unfold aloneN
  split
  · rename_i h
    simp [okI] at h
    exact Nat.lt_of_lt_of_le (Nat.pow_lt_pow_right (m := i.toNat) (n := 64) (by decide) (by omega)) (by decide)
  · decide
theorem alone_bit (i : Int) (k : Nat) : (aloneN i).testBit k = (okI i && decide (i.toNat = k)) := by
  unfold aloneN
  split
  · rename_i h
    rw [Nat.testBit_two_pow, h, Bool.true_and]
  · rename_i h
    simp at h
    simp [h]
theorem or_alone (s : Nat) (i : Int) : s ||| aloneN i = withN s i := by
  refine Nat.eq_of_testBit_eq fun k => ?_
  rw [Nat.testBit_or, alone_bit, bit_with]
theorem and_alone (s : Nat) (i : Int) : (((s &&& aloneN i : Nat) : Int) != 0) = hasN s i := by
  have e : (s &&& aloneN i = 0) ↔ hasN s i = false := by
    constructor
    · intro h
      unfold hasN
      cases ho : okI i with
      | false => rfl
      | true =>
        have h1 := congrArg (fun x => x.testBit i.toNat) h
        simp only [Nat.testBit_and, alone_bit, ho, decide_true, Bool.and_true, Nat.zero_testBit] at h1
        rw [h1]; rfl
    · intro h
      refine Nat.eq_of_testBit_eq fun k => ?_
      rw [Nat.testBit_and, alone_bit, Nat.zero_testBit]
      unfold hasN at h
      cases ho : okI i with
      | false => simp
      | true =>
        rw [ho, Bool.true_and] at h
        by_cases hk : i.toNat = k
        · subst hk; simp [h]
        · simp [hk]
  cases hh : hasN s i with
  | false => simp [e.2 hh]
  | true =>
    have : ¬ s &&& aloneN i = 0 := fun h => by rw [e.1 h] at hh; cases hh
    rw [bne_iff_ne]
    omega
theorem bv_nat (a : Nat) (ha : a < 18446744073709551616) : (BitVec.ofInt 64 (a : Int)).toNat = a := by
  rw [BitVec.ofInt_natCast, BitVec.toNat_ofNat]; exact Nat.mod_eq_of_lt (by omega)
/-- What is left of a without b. -/
theorem andNot_bit (a b : Nat) (ha : a < 18446744073709551616) (hb : b < 18446744073709551616) : ∃ z : Nat, bits .andNot .u64 (a : Int) (b : Int) = (z : Int) ∧ z < 18446744073709551616 ∧ ∀ k, z.testBit k = (a.testBit k && !b.testBit k) := by
  refine ⟨(BitVec.ofInt 64 (a : Int) &&& ~~~ BitVec.ofInt 64 (b : Int)).toNat, ?_, (BitVec.isLt _), ?_⟩
  · show IntKind.u64.wrap ((BitVec.ofInt 64 (a : Int) &&& ~~~ BitVec.ofInt 64 (b : Int)).toNat : Int) = _
    rw [IntKind.wrap_u64]
    have := (BitVec.ofInt 64 (a : Int) &&& ~~~ BitVec.ofInt 64 (b : Int)).isLt
    omega
  · intro k
    have h1 : ∀ x : Nat, x < 18446744073709551616 → (BitVec.ofInt 64 (x : Int)).getLsbD k = x.testBit k := fun x hx => by rw [← BitVec.testBit_toNat, bv_nat x hx]
    have h2 : ∀ x : Nat, x < 18446744073709551616 → 64 ≤ k → x.testBit k = false := fun x hx hk => Nat.testBit_lt_two_pow (Nat.lt_of_lt_of_le hx (Nat.le_trans (by decide) (Nat.pow_le_pow_right (n := 2) (by decide) hk)))
    rw [BitVec.testBit_toNat, BitVec.getLsbD_and, BitVec.getLsbD_not, h1 a ha, h1 b hb]
    by_cases hk : k < 64
    · simp [hk]
    · simp [hk, h2 a ha (by omega)]
theorem andNot_alone (s : Nat) (i : Int) (hs : s < 18446744073709551616) : bits .andNot .u64 (s : Int) (aloneN i : Int) = (withoutN s i : Int) := by
  obtain ⟨z, hz, _, hb⟩ := andNot_bit s (aloneN i) hs (aloneN_lt i)
  rw [hz]
  congr 1
  refine Nat.eq_of_testBit_eq fun k => ?_
  rw [hb, alone_bit, bit_without]

set_option maxHeartbeats 400000 in
theorem alone_any (i : Int) (w : World) : Calls Tryd.prog 20 #[.int .i64 i] w fun e w' => e = .returned (.int .u64 (aloneN i : Int)) ∧ w' = w := by
  by_cases h0 : i < 0
  · rw [show aloneN i = 0 by simp [aloneN, okI]; omega]
    have d0 : decide (i < 0) = true := by simpa using h0
    go_enter Tryd.func20, Tryd.ntmps20
    go_wp2
    go_ret
    exact ⟨rfl, rfl⟩
  · by_cases h1 : 64 ≤ i
    · rw [show aloneN i = 0 by simp [aloneN, okI]; omega]
      have d0 : decide (i < 0) = false := by simpa using h0
      have d1 : decide (64 ≤ i) = true := by simpa using h1
      go_enter Tryd.func20, Tryd.ntmps20
      go_wp2
      go_ret
      exact ⟨rfl, rfl⟩
    · have hok : okI i = true := by simp [okI]; omega
      obtain ⟨u, rfl⟩ := Int.eq_ofNat_of_zero_le (show 0 ≤ i by omega)
      have hu : u < 64 := by omega
      have d0 : decide ((u : Int) < 0) = false := by simp
      have d1 : decide ((64 : Int) ≤ (u : Int)) = false := by simp; omega
      rw [show aloneN (u : Int) = 2 ^ u by unfold aloneN; rw [if_pos hok]; rfl]
      have hp := pow_u64 hu
      obtain ⟨p, hpp⟩ : ∃ p, 2 ^ u = p := ⟨_, rfl⟩
      rw [hpp] at hp ⊢
      have u0 : (0 : Int) ≤ u := by omega
      clear hok hpp
      go_enter Tryd.func20, Tryd.ntmps20
      go_wp2
      go_ret
      exact ⟨rfl, rfl⟩

theorem has_same (s : Nat) (i : Int) (w : World) (hs : s < 18446744073709551616) : Calls Tryd.prog 9 #[.int .u64 s, .int .i64 i] w fun e w' => e = .returned (.bool (hasN s i)) ∧ w' = w := by
  have HA := Lib.hid (alone_any i)
  have hl := aloneN_lt i
  have e1 := bits_and_u64_nat s (aloneN i) hs hl
  have e2 := and_alone s i
  obtain ⟨a, ha⟩ : ∃ a, aloneN i = a := ⟨_, rfl⟩
  obtain ⟨t, ht⟩ : ∃ t, hasN s i = t := ⟨_, rfl⟩
  obtain ⟨z, hz⟩ : ∃ z, s &&& a = z := ⟨_, rfl⟩
  rw [ha] at HA e1 e2
  rw [hz] at e1 e2
  rw [ht] at e2 ⊢
  clear ha ht hz hl hs
  go_enter Tryd.func9, Tryd.ntmps9
  go_wp2_with fail
  with_reducible refine (HA.out _).mono ?_
  rintro e w1 ⟨rfl, rfl⟩
  go_wp2
  go_ret
  exact ⟨rfl, rfl⟩
theorem with_same (s : Nat) (i : Int) (w : World) (hs : s < 18446744073709551616) : Calls Tryd.prog 11 #[.int .u64 s, .int .i64 i] w fun e w' => e = .returned (.int .u64 (withN s i : Int)) ∧ w' = w := by
  have HA := Lib.hid (alone_any i)
  have hl := aloneN_lt i
  have e1 := bits_or_u64_nat s (aloneN i) hs hl
  rw [or_alone] at e1
  obtain ⟨a, ha⟩ : ∃ a, aloneN i = a := ⟨_, rfl⟩
  obtain ⟨z, hz⟩ : ∃ z, withN s i = z := ⟨_, rfl⟩
  rw [ha] at HA e1
  rw [hz] at e1 ⊢
  clear ha hz hl hs
  go_enter Tryd.func11, Tryd.ntmps11
  go_wp2_with fail
  with_reducible refine (HA.out _).mono ?_
  rintro e w1 ⟨rfl, rfl⟩
  go_wp2
  go_ret
  exact ⟨rfl, rfl⟩
theorem without_same (s : Nat) (i : Int) (w : World) (hs : s < 18446744073709551616) : Calls Tryd.prog 13 #[.int .u64 s, .int .i64 i] w fun e w' => e = .returned (.int .u64 (withoutN s i : Int)) ∧ w' = w := by
  have HA := Lib.hid (alone_any i)
  have e1 := andNot_alone s i hs
  obtain ⟨a, ha⟩ : ∃ a, aloneN i = a := ⟨_, rfl⟩
  obtain ⟨z, hz⟩ : ∃ z, withoutN s i = z := ⟨_, rfl⟩
  rw [ha] at HA e1
  rw [hz] at e1 ⊢
  clear ha hz hs
  go_enter Tryd.func13, Tryd.ntmps13
  go_wp2_with fail
  with_reducible refine (HA.out _).mono ?_
  rintro e w1 ⟨rfl, rfl⟩
  go_wp2
  go_ret
  exact ⟨rfl, rfl⟩
theorem has_any : HasSaid := fun s i w hs _ => (has_same s i w hs).mono fun _ _ ⟨h, e⟩ => ⟨h, 0, e⟩
theorem with_any : WithSaid := fun s i w hs _ => (with_same s i w hs).mono fun _ _ ⟨h, e⟩ => ⟨h, 0, e⟩
theorem without_any : WithoutSaid := fun s i w hs _ => (without_same s i w hs).mono fun _ _ ⟨h, e⟩ => ⟨h, 0, e⟩
theorem within_any : WithinSaid := by
  intro a b w ha hb
  have e1 := andNot_within a b ha hb
  obtain ⟨z, hz⟩ : ∃ z, bits .andNot .u64 (a : Int) (b : Int) = z := ⟨_, rfl⟩
  obtain ⟨t, ht⟩ : ∃ t, withinN a b = t := ⟨_, rfl⟩
  rw [hz] at e1
  rw [ht] at e1 ⊢
  clear ht ha hb
  go_enter Tryd.func18, Tryd.ntmps18
  go_wp2
  go_ret
  exact ⟨rfl, 0, rfl⟩

set_option maxRecDepth 100000 in
theorem of_any : OfSaid := by
  intro ao b off n cap F w hn hao hF hw
  have HF := Lib.hid hF
  have HAO := Lib.hid hao
  have HW := Lib.hid hw
  clear hF hao hw
  go_enter Tryd.func17, Tryd.ntmps17
  go_wp2
  go_loopw [3, 8] (fun s i wr => ∃ k : Nat, k ≤ n ∧ i = .int .i64 k ∧ s = .int .u64 (ofN F k : Nat) ∧ Hid (Below w.heap.size w wr)) (fun _ i _ => n - (intOf i).toNat)
  case atStart => exact ⟨0, Nat.zero_le _, rfl, rfl, Lib.hid (Below.refl _ _)⟩
  case round =>
    obtain ⟨k, hk, rfl, rfl, HB⟩ := hrel
    by_cases hlt : k < n
    · obtain ⟨rfl, hb⟩ := HAO.out (by omega)
      have hcell := HF.out k hlt
      rw [← HB.out.cell (p := ⟨b, off + k, none⟩) hb] at hcell
      obtain ⟨z, hz⟩ : ∃ z, F k = z := ⟨_, rfl⟩
      have HR := Lib.hid (with_any (ofN F k) z wr (ofN_lt F k) (hz ▸ HW.out k hlt))
      have HE := Lib.hid (show withN (ofN F k) z = ofN F (k + 1) by rw [← hz]; rfl)
      rw [hz] at hcell
      have l1 : (k : Int) < n := by omega
      clear hz
      go_wp2_with fail
      with_reducible refine HR.out.mono ?_
      rintro e w3 ⟨rfl, n3, rfl⟩
      go_wp2
      go_roundw
      case rel => exact ⟨k + 1, by omega, by go_num, by rw [HE.out], Lib.hid (below_drewN HB.out n3)⟩
      case measure => simp [intOf]; omega
    · obtain rfl : k = n := by omega
      go_wp2
      go_ret
      exact ⟨rfl, HB.out⟩
end Go.Proofs.YtppdjdlnaohkiaaDoor
