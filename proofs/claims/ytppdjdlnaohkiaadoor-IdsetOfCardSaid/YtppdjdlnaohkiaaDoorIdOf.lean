/-
  The law IdsetOf, given what is said of the program.
-/
import Derived.Test.YtppdjdlnaohkiaaDoorIdLaw
namespace Go.Proofs.YtppdjdlnaohkiaaDoor
open Go.RowKit

/-- The set of the first k numbers. -/
def ofN (F : Nat → Int) : Nat → Nat
  | 0 => 0
  | k + 1 => withN (ofN F k) (F k)
theorem ofN_lt (F : Nat → Int) : ∀ k, ofN F k < 18446744073709551616
  | 0 => by show (0 : Nat) < _; decide
  | k + 1 => withN_lt (ofN_lt F k)
theorem within_or (a b : Nat) : withinN a (a ||| b) = true := within_bits fun k h => by rw [Nat.testBit_or, h]; rfl
theorem within_and (a b : Nat) : withinN (a &&& b) b = true := within_bits fun k h => by rw [Nat.testBit_and] at h; simp at h; exact h.2
theorem bv_andNot (A B : BitVec 64) : (A &&& ~~~B).toNat = 0 ↔ A.toNat &&& B.toNat = A.toNat := by
  rw [← BitVec.toNat_and]
  constructor
  · intro h
    have h0 : A &&& ~~~B = 0#64 := BitVec.eq_of_toNat_eq (by rw [h]; rfl)
    congr 1
    apply BitVec.eq_of_getLsbD_eq
    intro i hi
    have := congrArg (fun X => X.getLsbD i) h0
    simp [hi] at this ⊢
    exact this
  · intro h
    have h0 : A &&& B = A := BitVec.eq_of_toNat_eq h
    have h1 : A &&& ~~~B = 0#64 := by
      apply BitVec.eq_of_getLsbD_eq
      intro i hi
      have := congrArg (fun X => X.getLsbD i) h0
      simp [hi] at this ⊢
      exact this
    rw [h1]; rfl
theorem andNot_within (a b : Nat) (ha : a < 18446744073709551616) (hb : b < 18446744073709551616) : (bits .andNot .u64 (a : Int) (b : Int) == 0) = withinN a b := by
  have h1 : (BitVec.ofInt 64 (a : Int)).toNat = a := by
    rw [BitVec.ofInt_natCast, BitVec.toNat_ofNat]; exact Nat.mod_eq_of_lt (by omega)
  have h2 : (BitVec.ofInt 64 (b : Int)).toNat = b := by
    rw [BitVec.ofInt_natCast, BitVec.toNat_ofNat]; exact Nat.mod_eq_of_lt (by omega)
  have h3 : bits .andNot .u64 (a : Int) (b : Int) = ((BitVec.ofInt 64 (a : Int) &&& ~~~ BitVec.ofInt 64 (b : Int)).toNat : Int) := by
    show IntKind.u64.wrap ((BitVec.ofInt 64 (a : Int) &&& ~~~ BitVec.ofInt 64 (b : Int)).toNat : Int) = _
    rw [IntKind.wrap_u64]
    have := (BitVec.ofInt 64 (a : Int) &&& ~~~ BitVec.ofInt 64 (b : Int)).isLt
    omega
  have h4 := bv_andNot (BitVec.ofInt 64 (a : Int)) (BitVec.ofInt 64 (b : Int))
  rw [h1, h2] at h4
  rw [h3]
  unfold withinN
  rw [Bool.eq_iff_iff]
  simp only [beq_iff_eq, decide_eq_true_eq, ← h4]
  omega
def OfSaid : Prop := ∀ (ao : Option Addr) (b off n cap : Nat) (F : Nat → Int) (w : World), n ≤ 80 → (0 < n → ao = some ⟨b, off, none⟩ ∧ b < w.heap.size) → (∀ i, i < n → w.cell? ⟨b, off + i, none⟩ = some (.int .i64 (F i))) → (∀ i, i < n → isInt (F i)) →
    Calls Tryd.prog 17 #[.slice ao n cap] w fun e w' => e = .returned (.int .u64 (ofN F n : Int)) ∧ Below w.heap.size w w'

set_option maxRecDepth 100000 in
set_option maxHeartbeats 1600000 in
theorem of_walk (hA : AwakeSaid) (hO : OfSaid) (hI : WithinSaid) (ao : Option Addr) (b off n cap : Nat) (F : Nat → Int) (t : Nat) (w : World) (hn : n ≤ 80) (hao : 0 < n → ao = some ⟨b, off, none⟩ ∧ b < w.heap.size)
    (hF : ∀ i, i < n → w.cell? ⟨b, off + i, none⟩ = some (.int .i64 (F i))) (hw : ∀ i, i < n → isInt (F i)) (ht : t < 18446744073709551616) (hT : TabOk w) :
    Calls Tryd.prog 4 #[.slice ao n cap, .int .u64 t] w fun e w' => e = .returned (.bool true) ∧ Below w.heap.size w w' := by
  have HA := Lib.hid (hA w hT)
  have HO := Lib.hid hO
  have HI := Lib.hid hI
  have HF := Lib.hid hF
  have HAO := Lib.hid hao
  have HW := Lib.hid hw
  clear hA hO hI hF hao hw hT
  go_enter Tryd.func4, Tryd.ntmps4
  go_wp2_with fail
  refine HA.out.mono ?_
  rintro e w1 ⟨rfl, hb1⟩
  have HB1 := Lib.hid hb1
  have hc1 : ∀ i, i < n → w1.cell? ⟨b, off + i, none⟩ = some (.int .i64 (F i)) := fun i hi => by
    rw [hb1.cell (p := ⟨b, off + i, none⟩) (HAO.out (by omega)).2]
    exact HF.out i hi
  have HP := Lib.hid (HO.out ao b off n cap F w1 hn (fun h => ⟨(HAO.out h).1, by have := (HAO.out h).2; have := hb1.size; omega⟩) hc1 HW.out)
  clear hb1 hc1
  go_wp2_with fail
  refine HP.out.mono ?_
  rintro e w2 ⟨rfl, hb2⟩
  have HB2 := Lib.hid (HB1.out.trans (hb2.mono HB1.out.size))
  clear hb2 HP
  go_wp2_with fail
  go_loopw [6, 18] (fun s i wr => ∃ k : Nat, k ≤ n ∧ i = .int .i64 k ∧ s = .int .u64 (ofN F k : Nat) ∧ Hid (Below w.heap.size w wr)) (fun _ i _ => n - (intOf i).toNat)
  case atStart => exact ⟨0, Nat.zero_le _, rfl, rfl, HB2⟩
  case round =>
    obtain ⟨k, hk, rfl, rfl, HB⟩ := hrel
    by_cases hlt : k < n
    · obtain ⟨rfl, hb⟩ := HAO.out (by omega)
      have hcell := HF.out k hlt
      rw [← HB.out.cell (p := ⟨b, off + k, none⟩) hb] at hcell
      obtain ⟨z, hz⟩ : ∃ z, F k = z := ⟨_, rfl⟩
      have HR := Lib.hid (rwith_any (ofN F k) z wr (ofN_lt F k))
      have HE := Lib.hid (show withN (ofN F k) z = ofN F (k + 1) by rw [← hz]; rfl)
      rw [hz] at hcell
      have l1 : (k : Int) < n := by omega
      clear hz
      go_wp2_with fail
      with_reducible refine HR.out.mono ?_
      rintro e w3 ⟨rfl, n3, rfl⟩
      go_wp2
      go_roundw
      case rel => exact ⟨k + 1, by omega, by go_num, by rw [HE.out], Lib.hid (below_drewN HB.out n3)⟩
      case measure => simp [intOf]; omega
    · obtain rfl : k = n := by omega
      obtain ⟨s, hs⟩ : ∃ s, ofN F k = s := ⟨_, rfl⟩
      have hs1 : s < 18446744073709551616 := hs ▸ ofN_lt F k
      rw [hs]
      have H1 := Lib.hid (fun W => HI.out s t W hs1 ht)
      have hO1 : s ||| t < 18446744073709551616 := Nat.or_lt_two_pow (n := 64) hs1 ht
      have hA1 : s &&& t < 18446744073709551616 := Nat.and_lt_two_pow (n := 64) _ ht
      have H2 := Lib.hid (fun W => HI.out s (s ||| t) W hs1 hO1)
      have H3 := Lib.hid (fun W => HI.out (s &&& t) t W hA1 ht)
      rw [within_or, ← bits_or_u64_nat s t hs1 ht] at H2
      rw [within_and, ← bits_and_u64_nat s t hs1 ht] at H3
      have hE := andNot_within s t hs1 ht
      obtain ⟨q, hq⟩ : ∃ q, withinN s t = q := ⟨_, rfl⟩
      rw [hq] at H1 hE
      clear hs HI hO1 hA1 hq
      go_wp2_with fail
      with_reducible refine (H1.out _).mono ?_
      rintro e w3 ⟨rfl, n3, rfl⟩
      have hE2 : (q == (bits BinOp.andNot IntKind.u64 (s : Int) (t : Int) == 0)) = true := by rw [hE]; simp
      go_wp2_with fail
      with_reducible refine (H2.out _).mono ?_
      rintro e w4 ⟨rfl, n4, rfl⟩
      go_wp2_with fail
      with_reducible refine (H3.out _).mono ?_
      rintro e w5 ⟨rfl, n5, rfl⟩
      go_wp2_with fail
      go_ret
      refine ⟨rfl, ?_⟩
      repeat refine below_drewN ?_ _
      exact HB.out
end Go.Proofs.YtppdjdlnaohkiaaDoor
