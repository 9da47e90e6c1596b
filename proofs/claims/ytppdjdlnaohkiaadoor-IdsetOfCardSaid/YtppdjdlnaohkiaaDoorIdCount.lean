/-
  The program's sets: Len, First (over math/bits: OnesCount64, TrailingZeros64).
-/
import Derived.Test.YtppdjdlnaohkiaaDoorIdProg
import Derived.Test.YtppdjdlnaohkiaaDoorIdPop
namespace Go.Proofs.YtppdjdlnaohkiaaDoor
open Go.RowKit

theorem bits_and_i64_127 (x : Nat) (hx : x < 9223372036854775808) : bits .and .i64 (x : Int) 127 = ((x % 128 : Nat) : Int) := by
  have h1 : (BitVec.ofInt 64 (x : Int)).toNat = x := bv_nat x (by omega)
  have e : (x &&& 127 : Nat) = x % 128 := Nat.and_two_pow_sub_one_eq_mod x 7
  show IntKind.i64.wrap ((BitVec.ofInt 64 (x : Int) &&& BitVec.ofInt 64 127).toNat : Int) = _
  rw [BitVec.toNat_and, h1, show (BitVec.ofInt 64 (127 : Int)).toNat = 127 by decide, e]
  have := Nat.mod_lt x (show 0 < 128 by decide)
  rw [IntKind.wrap_i64]
  omega

set_option maxHeartbeats 1000000 in
theorem ones_any (x : Nat) (hx : x < 18446744073709551616) (w : World) : Calls Tryd.prog 21 #[.int .u64 x] w fun e w' => e = .returned (.int .i64 (cntB x 64 : Nat)) ∧ w' = w := by
  obtain ⟨a, b, y, z, u, v, h1, h2, h3, h4, h5, h6, h7, l1, l2, l3, l4, l5, l6, l7⟩ := pop_cnt hx
  have hC : ∀ n c : Nat, n < 18446744073709551616 → c < 18446744073709551616 → bits .and .u64 (n : Int) (c : Int) = ((n &&& c : Nat) : Int) := fun n c hn hc => bits_and_u64_nat n c hn hc
  have E1 : IntKind.u64.wrap (bits .and .u64 ((x : Int) / 2) 6148914691236517205 + bits .and .u64 (x : Int) 6148914691236517205) = (a : Int) := by
    have q1 := hC (x / 2) 6148914691236517205 (by omega) (by decide)
    have q2 := hC x 6148914691236517205 hx (by decide)
    rw [show ((x / 2 : Nat) : Int) = (x : Int) / 2 by omega] at q1
    rw [show ((6148914691236517205 : Nat) : Int) = 6148914691236517205 from rfl] at q1 q2
    unfold pop1 at h1
    rw [q1, q2, IntKind.wrap_u64]
    omega
  have E2 : IntKind.u64.wrap (bits .and .u64 ((a : Int) / 4) 3689348814741910323 + bits .and .u64 (a : Int) 3689348814741910323) = (b : Int) := by
    have q1 := hC (a / 4) 3689348814741910323 (by omega) (by decide)
    have q2 := hC a 3689348814741910323 l1 (by decide)
    rw [show ((a / 4 : Nat) : Int) = (a : Int) / 4 by omega] at q1
    rw [show ((3689348814741910323 : Nat) : Int) = 3689348814741910323 from rfl] at q1 q2
    unfold pop2 at h2
    rw [q1, q2, IntKind.wrap_u64]
    omega
  have E3 : bits .and .u64 (IntKind.u64.wrap ((b : Int) / 16 + (b : Int))) 1085102592571150095 = (y : Int) := by
    have q0 : IntKind.u64.wrap ((b : Int) / 16 + (b : Int)) = ((b / 16 + b : Nat) : Int) := by rw [IntKind.wrap_u64]; omega
    have q1 := hC (b / 16 + b) 1085102592571150095 l3 (by decide)
    rw [show ((1085102592571150095 : Nat) : Int) = 1085102592571150095 from rfl] at q1
    rw [q0, q1]
    unfold pop3 at h3
    rw [h3]
  have E4 : IntKind.u64.wrap ((y : Int) + (y : Int) / 256) = (z : Int) := by rw [IntKind.wrap_u64]; omega
  have E5 : IntKind.u64.wrap ((z : Int) + (z : Int) / 65536) = (u : Int) := by rw [IntKind.wrap_u64]; omega
  have E6 : IntKind.u64.wrap ((u : Int) + (u : Int) / 4294967296) = (v : Int) := by rw [IntKind.wrap_u64]; omega
  have E7 : IntKind.i64.wrap (v : Int) = (v : Int) := by rw [IntKind.wrap_i64]; omega
  have E8 := bits_and_i64_127 v l7
  rw [h7] at E8
  obtain ⟨r, hr⟩ : ∃ r, cntB x 64 = r := ⟨_, rfl⟩
  rw [hr] at E8 ⊢
  clear h1 h2 h3 h4 h5 h6 h7 hr hC l1 l2 l3 l4 l5 l6 l7 hx
  go_enter Tryd.func21, Tryd.ntmps21
  go_wp2
  go_ret
  exact ⟨rfl, rfl⟩
theorem len_same (s : Nat) (w : World) (hs : s < 18446744073709551616) : Calls Tryd.prog 15 #[.int .u64 s] w fun e w' => e = .returned (.int .i64 ((listN s).length : Nat)) ∧ w' = w := by
  have H := Lib.hid (ones_any s hs)
  rw [cnt_list]
  go_enter Tryd.func15, Tryd.ntmps15
  go_wp2_with fail
  with_reducible refine (H.out _).mono ?_
  rintro e w1 ⟨rfl, rfl⟩
  go_wp2
  go_ret
  exact ⟨rfl, rfl⟩
theorem len_any (s : Nat) (w : World) (hs : s < 18446744073709551616) : Calls Tryd.prog 15 #[.int .u64 s] w fun e w' => e = .returned (.int .i64 ((listN s).length : Nat)) ∧ ∃ n, w' = w.drewN n := (len_same s w hs).mono fun _ _ ⟨h, e⟩ => ⟨h, 0, e⟩

theorem tz_key (x a : Nat) (hx : x < 18446744073709551616) (hx0 : x ≠ 0) (hlow : x &&& (18446744073709551616 - x) = a) :
    IntKind.u64.wrap (bits .and .u64 (x : Int) (IntKind.u64.wrap (-(x : Int))) * 285870213051353865) / 288230376151711744 = ((a * 285870213051353865 % 18446744073709551616 / 288230376151711744 : Nat) : Int) := by
  have e1 : IntKind.u64.wrap (-(x : Int)) = ((18446744073709551616 - x : Nat) : Int) := by rw [IntKind.wrap_u64]; omega
  rw [e1, bits_and_u64_nat x _ hx (by omega), hlow, IntKind.wrap_u64]
  omega
set_option maxHeartbeats 1000000 in
theorem tz_any (x : Nat) (hx0 : x ≠ 0) (hx : x < 18446744073709551616) (w : World) (hT : TabOk w) :
    Calls Tryd.prog 22 #[.int .u64 x] w fun e w' => e = .returned (.int .i64 (Lib.ctz 64 x : Nat)) ∧ w' = w := by
  obtain ⟨hlow, hk⟩ := Lib.lowest_bit 64 x hx0 hx
  obtain ⟨hi, htab⟩ := Lib.deBruijn64_at _ hk
  have hcell := hT _ hi
  rw [htab] at hcell
  have key := tz_key x _ hx hx0 hlow
  have hx1 : ((x : Int) == 0) = false := by simp; omega
  obtain ⟨k, hk'⟩ : ∃ k, Lib.ctz 64 x = k := ⟨_, rfl⟩
  rw [hk'] at hcell key hk hi ⊢
  obtain ⟨idx, hidx⟩ : ∃ idx, 2 ^ k * 285870213051353865 % 18446744073709551616 / 288230376151711744 = idx := ⟨_, rfl⟩
  rw [hidx] at hcell key hi
  have k0 : (0 : Int) ≤ k := by omega
  have k1 : (k : Int) < 64 := by omega
  have i0 : (0 : Int) ≤ idx := by omega
  have i1 : (idx : Int) < 64 := by omega
  clear hlow htab hk' hidx hT hx hx0
  go_enter Tryd.func22, Tryd.ntmps22
  go_wp2_with (simp only [key])
  go_ret
  exact ⟨rfl, rfl⟩
end Go.Proofs.YtppdjdlnaohkiaaDoor
