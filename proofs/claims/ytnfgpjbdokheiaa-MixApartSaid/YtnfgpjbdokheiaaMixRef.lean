/-
  The document's mix: xor, Mix, Bucket.
-/
import Derived.Test.YtnfgpjbdokheiaaChecked
import Derived.Test.YtnfgpjbdokheiaaMixMath
import Derived.Lib.Hide
import Derived.WalkKit
import Derived.Deep.QuietTactic
import Derived.BigQuiet
namespace Go.Proofs.Ytnfgpjbdokheiaa
open Go.RowKit

theorem bit_at (x k : Nat) : ((x : Int) / 2 ^ k).tmod 2 = ((x / 2 ^ k % 2 : Nat) : Int) := by
  have e : ((x : Int) / 2 ^ k) = ((x / 2 ^ k : Nat) : Int) := by push_cast; rfl
  rw [e]
  rfl
theorem bit_ne (x y k : Nat) : (((x : Int) / 2 ^ k).tmod 2 != ((y : Int) / 2 ^ k).tmod 2) = decide (¬ x / 2 ^ k % 2 = y / 2 ^ k % 2) := by
  rw [bit_at, bit_at]
  by_cases h : x / 2 ^ k % 2 = y / 2 ^ k % 2
  · rw [h]; simp
  · rw [decide_eq_true h, bne_iff_ne]
    intro e
    exact h (Int.ofNat_inj.1 e)
theorem add_bit {z k : Nat} (hz : z < 2 ^ k) (hk : k < 64) : IntKind.u64.wrap ((z : Int) + IntKind.u64.wrap (2 ^ k)) = ((z + 2 ^ k : Nat) : Int) := by
  have h2 : 2 ^ k * 2 ≤ 2 ^ 64 := by
    rw [← Nat.pow_succ]
    exact Nat.pow_le_pow_right (by decide) (by omega)
  have e : ((2 : Int) ^ k) = ((2 ^ k : Nat) : Int) := by push_cast; rfl
  rw [e, IntKind.wrap_u64, IntKind.wrap_u64]
  omega

set_option maxHeartbeats 400000 in
theorem xor_any (x y : Nat) (w : World) (h1 : x < 18446744073709551616) (g1 : y < 18446744073709551616) : Calls Try.prog 12 #[.int .u64 x, .int .u64 y] w fun e w' => e = .returned (.int .u64 ((x ^^^ y : Nat) : Int)) ∧ ∃ n, w' = w.drewN n := by
  have hfin := xor_done h1 g1
  go_enter Try.func12, Try.ntmps12
  go_wp2
  go_loopw [5, 6] (fun c i wr => ∃ (k : Nat), i = .int .i64 k ∧ c = .int .u64 (((x ^^^ y) % 2 ^ k : Nat) : Int) ∧ k ≤ 64 ∧ Hid (∃ n, wr = w.drewN n)) (fun _ i _ => 64 - (intOf i).toNat)
  case atStart => exact ⟨0, rfl, by simp [Nat.mod_one], by omega, Lib.hid ⟨0, rfl⟩⟩
  case round =>
    obtain ⟨k, rfl, rfl, hk, HW⟩ := hrel
    have HN : Hid (∀ q, ∃ n, wr.drewN q = w.drewN n) := by
      obtain ⟨n, rfl⟩ := HW.out
      exact fun q => ⟨n + q, by simp⟩
    have hs := xor_step x y k
    have HF := Lib.hid hfin
    by_cases hlt : k < 64
    · have i0 : (0 : Int) ≤ k := by omega
      have i1 : (k : Int) < 64 := by omega
      have hzl : (x ^^^ y) % 2 ^ k < 2 ^ k := Nat.mod_lt _ (Nat.pow_pos (by decide))
      have hb := bit_ne x y k
      obtain ⟨z, hz⟩ : ∃ z, (x ^^^ y) % 2 ^ k = z := ⟨_, rfl⟩
      rw [hz] at hzl hs ⊢
      have ha := add_bit hzl hlt
      by_cases hd : x / 2 ^ k % 2 = y / 2 ^ k % 2
      · rw [if_pos hd] at hs
        have hb' : (((x : Int) / 2 ^ k).tmod 2 != ((y : Int) / 2 ^ k).tmod 2) = false := by rw [hb]; simp [hd]
        have HS := Lib.hid hs
        clear hs hb hd hz hfin ha hzl
        go_wp2
        go_big_quiet (fail)
        go_wp2
        go_roundw
        case rel => exact ⟨k + 1, by go_num, by rw [HS.out, Nat.add_zero], by omega, HN.out _⟩
        case measure => simp [intOf]; omega
      · rw [if_neg hd] at hs
        have hb' : (((x : Int) / 2 ^ k).tmod 2 != ((y : Int) / 2 ^ k).tmod 2) = true := by rw [hb]; simp [hd]
        have HS := Lib.hid hs
        clear hs hb hd hz hfin hzl
        go_wp2
        go_big_quiet (fail)
        go_wp2
        go_roundw
        case rel => exact ⟨k + 1, by go_num, by rw [HS.out]; push_cast; rfl, by omega, HN.out _⟩
        case measure => simp [intOf]; omega
    · have hk' : k = 64 := by omega
      subst hk'
      clear hs hfin
      obtain ⟨z, hz⟩ : ∃ z, (x ^^^ y) % 2 ^ 64 = z := ⟨_, rfl⟩
      have HZ := Lib.hid hz
      rw [hz]
      clear hz
      go_wp2
      go_ret
      rw [← HF.out, HZ.out]
      exact ⟨rfl, HW.out⟩

/-- A word of the walk's own spelling. -/
theorem wrap_mod (n : Nat) : IntKind.u64.wrap (n : Int) = ((n % 18446744073709551616 : Nat) : Int) := by
  rw [IntKind.wrap_u64]; omega
theorem mix_steps (x : Nat) : IntKind.u64.wrap ((x : Int) + 11400714819323198485) = (mixA x : Int) := by
  rw [IntKind.wrap_u64]; unfold mixA; omega
theorem mixB_step (a : Nat) : IntKind.u64.wrap (((a ^^^ a / 1073741824 : Nat) : Int) * 13787848793156543929) = (mixB a : Int) := by
  rw [IntKind.wrap_u64]; unfold mixB; omega
theorem mixC_step (b : Nat) : IntKind.u64.wrap (((b ^^^ b / 134217728 : Nat) : Int) * 10723151780598845931) = (mixC b : Int) := by
  rw [IntKind.wrap_u64]; unfold mixC; omega

set_option maxHeartbeats 400000 in
theorem rmix_any (x : Nat) (w : World) : Calls Try.prog 7 #[.int .u64 x] w fun e w' => e = .returned (.int .u64 (mixN x : Int)) ∧ ∃ n, w' = w.drewN n := by
  obtain ⟨a, ha⟩ : ∃ a, mixA x = a := ⟨_, rfl⟩
  have la := mixA_lt x
  have sa := mix_steps x
  rw [ha] at la sa
  obtain ⟨b, hb⟩ : ∃ b, mixB a = b := ⟨_, rfl⟩
  have lb := mixB_lt a
  have sb := mixB_step a
  rw [hb] at lb sb
  obtain ⟨c, hc⟩ : ∃ c, mixC b = c := ⟨_, rfl⟩
  have lc := mixC_lt b
  have sc := mixC_step b
  rw [hc] at lc sc
  have hv : mixN x = c ^^^ c / 2147483648 := by unfold mixN; rw [ha, hb, hc]; rfl
  obtain ⟨a2, ha2⟩ : ∃ z, a / 1073741824 = z := ⟨_, rfl⟩
  obtain ⟨b2, hb2⟩ : ∃ z, b / 134217728 = z := ⟨_, rfl⟩
  obtain ⟨c2, hc2⟩ : ∃ z, c / 2147483648 = z := ⟨_, rfl⟩
  have da : ((a : Int) / 1073741824) = (a2 : Int) := by omega
  have db : ((b : Int) / 134217728) = (b2 : Int) := by omega
  have dc : ((c : Int) / 2147483648) = (c2 : Int) := by omega
  have HA := Lib.hid (fun W => xor_any a a2 W la (by omega))
  have HB := Lib.hid (fun W => xor_any b b2 W lb (by omega))
  have HC := Lib.hid (fun W => xor_any c c2 W lc (by omega))
  rw [ha2] at sb
  rw [hb2] at sc
  rw [hc2] at hv
  obtain ⟨xa, hxa⟩ : ∃ z, a ^^^ a2 = z := ⟨_, rfl⟩
  obtain ⟨xb, hxb⟩ : ∃ z, b ^^^ b2 = z := ⟨_, rfl⟩
  obtain ⟨xc, hxc⟩ : ∃ z, c ^^^ c2 = z := ⟨_, rfl⟩
  rw [hxa] at HA sb
  rw [hxb] at HB sc
  rw [hxc] at HC hv
  have HV := Lib.hid hv
  clear ha hb hc hv ha2 hb2 hc2 hxa hxb hxc la lb lc
  go_enter Try.func7, Try.ntmps7
  go_wp2_with fail
  refine (HA.out _).mono ?_
  rintro e w1 ⟨rfl, n1, rfl⟩
  go_wp2_with fail
  refine (HB.out _).mono ?_
  rintro e w1 ⟨rfl, n2, rfl⟩
  go_wp2_with fail
  refine (HC.out _).mono ?_
  rintro e w1 ⟨rfl, n3, rfl⟩
  go_wp2
  go_ret
  rw [HV.out]
  exact ⟨rfl, _, rfl⟩

set_option maxHeartbeats 400000 in
theorem rbuc_any (key n : Int) (w : World) (hn : n ≤ 9223372036854775807) : Calls Try.prog 9 #[.int .i64 key, .int .i64 n] w fun e w' => e = .returned (.int .i64 (bucI key n)) ∧ ∃ q, w' = w.drewN q := by
  by_cases h : n < 2
  · rw [show bucI key n = 0 by simp [bucI, h]]
    go_enter Try.func9, Try.ntmps9
    go_wp2
    go_ret
    exact ⟨rfl, 0, rfl⟩
  · obtain ⟨m, rfl⟩ := Int.eq_ofNat_of_zero_le (show 0 ≤ n by omega)
    obtain ⟨k, hk⟩ := Int.eq_ofNat_of_zero_le (Int.emod_nonneg key (show (18446744073709551616 : Int) ≠ 0 by decide))
    have hkl := Int.emod_lt_of_pos key (show (0 : Int) < 18446744073709551616 by decide)
    have ek : IntKind.u64.wrap key = (k : Int) := by rw [IntKind.wrap_u64, hk]
    have em : IntKind.u64.wrap (m : Int) = (m : Int) := by rw [IntKind.wrap_u64]; omega
    obtain ⟨r, hr⟩ : ∃ r, mixN k % m = r := ⟨_, rfl⟩
    have hrl : r < m := by rw [← hr]; exact Nat.mod_lt _ (by omega)
    obtain ⟨z, hz⟩ : ∃ z, mixN k = z := ⟨_, rfl⟩
    have hv : bucI key (m : Int) = (r : Int) := by
      unfold bucI
      rw [if_neg h, hk]
      simp [hr]
    have HM := Lib.hid (fun W => rmix_any k W)
    rw [hz] at HM
    have et : ((z : Int)).tmod (m : Int) = (r : Int) := by rw [← hr, hz]; rfl
    have ew : IntKind.i64.wrap (r : Int) = (r : Int) := by rw [IntKind.wrap_i64]; omega
    have HV := Lib.hid hv
    have m0 : (m : Int) ≠ 0 := by omega
    have m1 : ((m : Int) == 0) = false := by simpa using m0
    have m2 : 2 ≤ m := by omega
    have m3 : ¬ m = 0 := by omega
    clear hv hr hz hk hkl hrl
    go_enter Try.func9, Try.ntmps9
    go_wp2_with fail
    refine (HM.out _).mono ?_
    rintro e w1 ⟨rfl, n1, rfl⟩
    go_wp2
    go_ret
    rw [HV.out]
    exact ⟨rfl, _, rfl⟩
end Go.Proofs.Ytnfgpjbdokheiaa
