/-
  The program's mix: Mix, Bucket. (Written against a stub; to be fitted to what lands.)
-/
import Derived.Test.YtnfgpjbdokheiaaMixOrd
namespace Go.Proofs.Ytnfgpjbdokheiaa
open Go.RowKit

set_option maxHeartbeats 400000 in
theorem mix_any (x : Nat) (w : World) : Calls Try.prog 6 #[.int .u64 x] w fun e w' => e = .returned (.int .u64 (mixN x : Int)) ∧ w = w' := by
  obtain ⟨a, ha⟩ : ∃ a, mixA x = a := ⟨_, rfl⟩
  have la := mixA_lt x
  have sa := mix_steps x
  rw [ha] at la sa
  obtain ⟨b, hb⟩ : ∃ b, mixB a = b := ⟨_, rfl⟩
  have lb := mixB_lt a
  have sb := mixB_step a
  rw [hb] at lb sb
  obtain ⟨c, hc⟩ : ∃ c, mixC b = c := ⟨_, rfl⟩
  have lc := mixC_lt b
  have sc := mixC_step b
  rw [hc] at lc sc
  have hv : mixN x = c ^^^ c / 2147483648 := by unfold mixN; rw [ha, hb, hc]; rfl
  obtain ⟨a2, ha2⟩ : ∃ z, a / 1073741824 = z := ⟨_, rfl⟩
  obtain ⟨b2, hb2⟩ : ∃ z, b / 134217728 = z := ⟨_, rfl⟩
  obtain ⟨c2, hc2⟩ : ∃ z, c / 2147483648 = z := ⟨_, rfl⟩
  have da : ((a : Int) / 1073741824) = (a2 : Int) := by omega
  have db : ((b : Int) / 134217728) = (b2 : Int) := by omega
  have dc : ((c : Int) / 2147483648) = (c2 : Int) := by omega
  have xa := bits_xor_u64_nat a a2 la (by omega)
  have xb := bits_xor_u64_nat b b2 lb (by omega)
  have xc := bits_xor_u64_nat c c2 lc (by omega)
  rw [ha2] at sb
  rw [hb2] at sc
  rw [hc2] at hv
  have HV := Lib.hid hv
  clear ha hb hc hv ha2 hb2 hc2 la lb lc
  obtain ⟨za, hza⟩ : ∃ z, a ^^^ a2 = z := ⟨_, rfl⟩
  obtain ⟨zb, hzb⟩ : ∃ z, b ^^^ b2 = z := ⟨_, rfl⟩
  obtain ⟨zc, hzc⟩ : ∃ z, c ^^^ c2 = z := ⟨_, rfl⟩
  rw [hza] at xa sb
  rw [hzb] at xb sc
  rw [hzc] at xc HV
  clear hza hzb hzc
  go_enter Try.func6, Try.ntmps6
  go_wp2
  go_ret
  rw [HV.out]
  exact ⟨rfl, rfl⟩

set_option maxHeartbeats 400000 in
theorem buc_any (key n : Int) (w : World) (hn : n ≤ 9223372036854775807) : Calls Try.prog 8 #[.int .i64 key, .int .i64 n] w fun e w' => e = .returned (.int .i64 (bucI key n)) ∧ w = w' := by
  by_cases h : n < 2
  · rw [show bucI key n = 0 by simp [bucI, h]]
    go_enter Try.func8, Try.ntmps8
    go_wp2
    go_ret
    exact ⟨rfl, rfl⟩
  · obtain ⟨m, rfl⟩ := Int.eq_ofNat_of_zero_le (show 0 ≤ n by omega)
    obtain ⟨k, hk⟩ := Int.eq_ofNat_of_zero_le (Int.emod_nonneg key (show (18446744073709551616 : Int) ≠ 0 by decide))
    have hkl := Int.emod_lt_of_pos key (show (0 : Int) < 18446744073709551616 by decide)
    have ek : IntKind.u64.wrap key = (k : Int) := by rw [IntKind.wrap_u64, hk]
    have em : IntKind.u64.wrap (m : Int) = (m : Int) := by rw [IntKind.wrap_u64]; omega
    obtain ⟨r, hr⟩ : ∃ r, mixN k % m = r := ⟨_, rfl⟩
    have hrl : r < m := by rw [← hr]; exact Nat.mod_lt _ (by omega)
    obtain ⟨z, hz⟩ : ∃ z, mixN k = z := ⟨_, rfl⟩
    have hv : bucI key (m : Int) = (r : Int) := by
      unfold bucI
      rw [if_neg h, hk]
      simp [hr]
    have HM := Lib.hid (fun W => mix_any k W)
    rw [hz] at HM
    have et : ((z : Int)).tmod (m : Int) = (r : Int) := by rw [← hr, hz]; rfl
    have ew : IntKind.i64.wrap (r : Int) = (r : Int) := by rw [IntKind.wrap_i64]; omega
    have HV := Lib.hid hv
    have m0 : (m : Int) ≠ 0 := by omega
    have m1 : ((m : Int) == 0) = false := by simpa using m0
    have m2 : 2 ≤ m := by omega
    have m3 : ¬ m = 0 := by omega
    clear hv hr hz hk hkl hrl
    go_enter Try.func8, Try.ntmps8
    go_wp2_with fail
    refine (HM.out _).mono ?_
    rintro e w1 ⟨rfl, rfl⟩
    go_wp2
    go_ret
    rw [HV.out]
    exact ⟨rfl, rfl⟩
end Go.Proofs.Ytnfgpjbdokheiaa
