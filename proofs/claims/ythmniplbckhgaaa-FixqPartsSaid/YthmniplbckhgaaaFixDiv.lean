/-
  bits.Div64: the walk.
-/
import Derived.Test.YthmniplbckhgaaaFixBits
import Derived.Test.YthmniplbckhgaaaFixDivMath
import Derived.Lib.Hide
import Derived.Deep.QuietTactic
import Derived.BigQuiet
namespace Go.Proofs.Ythmniplbckhgaaa
open Go.RowKit Go.Shelf

set_option maxHeartbeats 1600000 in
theorem div64_core (hi lo y s Y y0 y1 u L u1 u0 Q1 v Q0 Q R' R : Int) (hh1 : hi ≤ 18446744073709551615) (_hl0 : 0 ≤ lo) (_hl1 : lo ≤ 18446744073709551615) (h1 : 1 ≤ hi) (h2 : hi < y) (_hy1 : y ≤ 18446744073709551615) (s0 : 0 ≤ s) (s1 : s ≤ 63)
    (hp1 : DivPre u u1 y0 y1) (hp2 : DivPre v u0 y0 y1)
    (E1 : IntKind.u64.wrap (y * 2 ^ s.toNat) = Y) (E2 : bits .and .u64 Y 4294967295 = y0) (E3 : Y / 4294967296 = y1)
    (E4 : bits .or .u64 (IntKind.u64.wrap (hi * 2 ^ s.toNat)) (lo / 2 ^ (64 - s).toNat) = u)
    (E5 : IntKind.u64.wrap (lo * 2 ^ s.toNat) = L) (E6 : L / 4294967296 = u1) (E7 : bits .and .u64 L 4294967295 = u0)
    (EQ1 : (u * 4294967296 + u1) / (y1 * 4294967296 + y0) = Q1)
    (EV : IntKind.u64.wrap (IntKind.u64.wrap (IntKind.u64.wrap (u * 4294967296) + u1) - IntKind.u64.wrap (Q1 * Y)) = v)
    (c1 : 0 ≤ Q1) (c2 : Q1 ≤ 4294967295) (c3 : 0 ≤ Q0) (c4 : Q0 ≤ 4294967295) (EA : Q1 * 4294967296 + Q0 = Q) (EB : IntKind.u64.wrap (IntKind.u64.wrap (IntKind.u64.wrap (v * 4294967296) + u0) - IntKind.u64.wrap (Q0 * Y)) = R') (EC : R' / 2 ^ s.toNat = R)
    (EQ0 : (v * 4294967296 + u0) / (y1 * 4294967296 + y0) = Q0)
    (w : World) (hz : Calls Try.prog 39 #[.int .u64 y] w fun e w' => e = .returned (.int .i64 s) ∧ w = w') :
    Calls Try.prog 29 #[.int .u64 hi, .int .u64 lo, .int .u64 y] w fun e w' => e = .returned (.tuple #[.int .u64 Q, .int .u64 R]) ∧ w = w' := by
  have HZ := Lib.hid hz
  have HQ1 := Lib.hid EQ1
  have HQ0 := Lib.hid EQ0
  clear hz EQ1 EQ0
  have hp1' := hp1
  have hp2' := hp2
  obtain ⟨a1, a2, a3, a4, a5, a6, a7, a8⟩ := hp1'
  obtain ⟨b1, b2, b3, b4, _, _, _, _⟩ := hp2'
  have d0 : 0 ≤ u / y1 := Int.ediv_nonneg a1 (by omega)
  have d1 : u / y1 ≤ 4294967297 := (dig_start hp1).2.2.2.2
  have d2 : u - u / y1 * y1 ≤ 4294967295 := (dig_start hp1).2.2.1
  have d3 : 0 ≤ u - u / y1 * y1 := (dig_start hp1).2.1
  have d4 : 0 ≤ u / y1 * y1 := Int.mul_nonneg d0 (by omega)
  have f0 : 0 ≤ v / y1 := Int.ediv_nonneg b1 (by omega)
  have f1 : v / y1 ≤ 4294967297 := (dig_start hp2).2.2.2.2
  have f2 : v - v / y1 * y1 ≤ 4294967295 := (dig_start hp2).2.2.1
  have f3 : 0 ≤ v - v / y1 * y1 := (dig_start hp2).2.1
  have f4 : 0 ≤ v / y1 * y1 := Int.mul_nonneg f0 (by omega)
  go_enter Try.func29, Try.ntmps29
  go_wp2_with (go_at_call 39; refine HZ.out.mono ?_; rintro e w1 ⟨rfl, rfl⟩)
  go_loop [15, 16] (fun a b => ∃ q r : Int, a = .int .u64 q ∧ b = .int .u64 r ∧ DivInv u u1 y0 y1 q r) (fun a _ => (intOf a).toNat)
  case atStart => exact ⟨_, _, rfl, rfl, dig_start hp1⟩
  case round =>
    obtain ⟨q, r, rfl, rfl, hi1⟩ := hrel
    have hi' := hi1
    obtain ⟨hu, r0, r1, hql, hq2⟩ := hi'
    have hq0 : 0 ≤ q := by have := dig_nonneg hp1; omega
    by_cases hc : 4294967296 ≤ q ∨ 4294967296 * r + u1 < q * y0
    · have hlow := dig_over hp1 hi1 hc
      have hq1 : 1 ≤ q := by have := dig_nonneg hp1; omega
      by_cases hbk : 4294967296 ≤ r + y1
      · have hfin := (dig_break hp1 hi1 hc hbk).trans HQ1.out
        clear hu hql hlow
        by_cases hg : 4294967296 ≤ q
        · clear hc
          go_wp2
          go_loop [18, 16] (fun a b => ∃ q r : Int, a = .int .u64 q ∧ b = .int .u64 r ∧ DivInv v u0 y0 y1 q r) (fun a _ => (intOf a).toNat)
          case atStart => exact ⟨_, _, rfl, rfl, dig_start hp2⟩
          case round =>
            obtain ⟨q, r, rfl, rfl, hi2⟩ := hrel
            have hi' := hi2
            obtain ⟨hu, r0, r1, hql, hq2⟩ := hi'
            have hq0 : 0 ≤ q := by have := dig_nonneg hp2; omega
            by_cases hc : 4294967296 ≤ q ∨ 4294967296 * r + u0 < q * y0
            · have hlow := dig_over hp2 hi2 hc
              have hq1 : 1 ≤ q := by have := dig_nonneg hp2; omega
              by_cases hbk : 4294967296 ≤ r + y1
              · have hfin := (dig_break hp2 hi2 hc hbk).trans HQ0.out
                clear hu hql hlow
                by_cases hg : 4294967296 ≤ q
                · clear hc
                  go_wp2
                  go_ret2
                  exact ⟨rfl, rfl⟩
                · have hc' : 4294967296 * r + u0 < q * y0 := by omega
                  obtain ⟨ht0, ht1⟩ := dig_times hp2 hi2 (by omega)
                  clear hc
                  go_wp2
                  go_ret2
                  exact ⟨rfl, rfl⟩
              · have hst := dig_step hp2 hi2 hc hbk
                clear hu hql hlow
                by_cases hg : 4294967296 ≤ q
                · clear hc
                  go_wp2
                  go_round
                  case rel => exact ⟨_, _, rfl, rfl, hst⟩
                  case measure => simp [intOf]; omega
                · have hc' : 4294967296 * r + u0 < q * y0 := by omega
                  obtain ⟨ht0, ht1⟩ := dig_times hp2 hi2 (by omega)
                  clear hc
                  go_wp2
                  go_round
                  case rel => exact ⟨_, _, rfl, rfl, hst⟩
                  case measure => simp [intOf]; omega
            · have hg : ¬ 4294967296 ≤ q := fun h => hc (.inl h)
              have hc' : ¬ 4294967296 * r + u0 < q * y0 := fun h => hc (.inr h)
              have hfin := (dig_under hp2 hu hql (by omega)).trans HQ0.out
              obtain ⟨ht0, ht1⟩ := dig_times hp2 hi2 (by omega)
              clear hc hu hql
              subst hfin
              go_wp2
              go_ret2
              exact ⟨rfl, rfl⟩
        · have hc' : 4294967296 * r + u1 < q * y0 := by omega
          obtain ⟨ht0, ht1⟩ := dig_times hp1 hi1 (by omega)
          clear hc
          go_wp2
          go_loop [18, 16] (fun a b => ∃ q r : Int, a = .int .u64 q ∧ b = .int .u64 r ∧ DivInv v u0 y0 y1 q r) (fun a _ => (intOf a).toNat)
          case atStart => exact ⟨_, _, rfl, rfl, dig_start hp2⟩
          case round =>
            obtain ⟨q, r, rfl, rfl, hi2⟩ := hrel
            have hi' := hi2
            obtain ⟨hu, r0, r1, hql, hq2⟩ := hi'
            have hq0 : 0 ≤ q := by have := dig_nonneg hp2; omega
            by_cases hc : 4294967296 ≤ q ∨ 4294967296 * r + u0 < q * y0
            · have hlow := dig_over hp2 hi2 hc
              have hq1 : 1 ≤ q := by have := dig_nonneg hp2; omega
              by_cases hbk : 4294967296 ≤ r + y1
              · have hfin := (dig_break hp2 hi2 hc hbk).trans HQ0.out
                clear hu hql hlow
                by_cases hg : 4294967296 ≤ q
                · clear hc
                  go_wp2
                  go_ret2
                  exact ⟨rfl, rfl⟩
                · have hc' : 4294967296 * r + u0 < q * y0 := by omega
                  obtain ⟨ht0, ht1⟩ := dig_times hp2 hi2 (by omega)
                  clear hc
                  go_wp2
                  go_ret2
                  exact ⟨rfl, rfl⟩
              · have hst := dig_step hp2 hi2 hc hbk
                clear hu hql hlow
                by_cases hg : 4294967296 ≤ q
                · clear hc
                  go_wp2
                  go_round
                  case rel => exact ⟨_, _, rfl, rfl, hst⟩
                  case measure => simp [intOf]; omega
                · have hc' : 4294967296 * r + u0 < q * y0 := by omega
                  obtain ⟨ht0, ht1⟩ := dig_times hp2 hi2 (by omega)
                  clear hc
                  go_wp2
                  go_round
                  case rel => exact ⟨_, _, rfl, rfl, hst⟩
                  case measure => simp [intOf]; omega
            · have hg : ¬ 4294967296 ≤ q := fun h => hc (.inl h)
              have hc' : ¬ 4294967296 * r + u0 < q * y0 := fun h => hc (.inr h)
              have hfin := (dig_under hp2 hu hql (by omega)).trans HQ0.out
              obtain ⟨ht0, ht1⟩ := dig_times hp2 hi2 (by omega)
              clear hc hu hql
              subst hfin
              go_wp2
              go_ret2
              exact ⟨rfl, rfl⟩
      · have hst := dig_step hp1 hi1 hc hbk
        clear hu hql hlow
        by_cases hg : 4294967296 ≤ q
        · clear hc
          go_wp2
          go_round
          case rel => exact ⟨_, _, rfl, rfl, hst⟩
          case measure => simp [intOf]; omega
        · have hc' : 4294967296 * r + u1 < q * y0 := by omega
          obtain ⟨ht0, ht1⟩ := dig_times hp1 hi1 (by omega)
          clear hc
          go_wp2
          go_round
          case rel => exact ⟨_, _, rfl, rfl, hst⟩
          case measure => simp [intOf]; omega
    · have hg : ¬ 4294967296 ≤ q := fun h => hc (.inl h)
      have hc' : ¬ 4294967296 * r + u1 < q * y0 := fun h => hc (.inr h)
      have hfin := (dig_under hp1 hu hql (by omega)).trans HQ1.out
      obtain ⟨ht0, ht1⟩ := dig_times hp1 hi1 (by omega)
      clear hc hu hql
      subst hfin
      go_wp2
      go_loop [18, 16] (fun a b => ∃ q r : Int, a = .int .u64 q ∧ b = .int .u64 r ∧ DivInv v u0 y0 y1 q r) (fun a _ => (intOf a).toNat)
      case atStart => exact ⟨_, _, rfl, rfl, dig_start hp2⟩
      case round =>
        obtain ⟨q, r, rfl, rfl, hi2⟩ := hrel
        have hi' := hi2
        obtain ⟨hu, r0, r1, hql, hq2⟩ := hi'
        have hq0 : 0 ≤ q := by have := dig_nonneg hp2; omega
        by_cases hc : 4294967296 ≤ q ∨ 4294967296 * r + u0 < q * y0
        · have hlow := dig_over hp2 hi2 hc
          have hq1 : 1 ≤ q := by have := dig_nonneg hp2; omega
          by_cases hbk : 4294967296 ≤ r + y1
          · have hfin := (dig_break hp2 hi2 hc hbk).trans HQ0.out
            clear hu hql hlow
            by_cases hg : 4294967296 ≤ q
            · clear hc
              go_wp2
              go_ret2
              exact ⟨rfl, rfl⟩
            · have hc' : 4294967296 * r + u0 < q * y0 := by omega
              obtain ⟨ht0, ht1⟩ := dig_times hp2 hi2 (by omega)
              clear hc
              go_wp2
              go_ret2
              exact ⟨rfl, rfl⟩
          · have hst := dig_step hp2 hi2 hc hbk
            clear hu hql hlow
            by_cases hg : 4294967296 ≤ q
            · clear hc
              go_wp2
              go_round
              case rel => exact ⟨_, _, rfl, rfl, hst⟩
              case measure => simp [intOf]; omega
            · have hc' : 4294967296 * r + u0 < q * y0 := by omega
              obtain ⟨ht0, ht1⟩ := dig_times hp2 hi2 (by omega)
              clear hc
              go_wp2
              go_round
              case rel => exact ⟨_, _, rfl, rfl, hst⟩
              case measure => simp [intOf]; omega
        · have hg : ¬ 4294967296 ≤ q := fun h => hc (.inl h)
          have hc' : ¬ 4294967296 * r + u0 < q * y0 := fun h => hc (.inr h)
          have hfin := (dig_under hp2 hu hql (by omega)).trans HQ0.out
          obtain ⟨ht0, ht1⟩ := dig_times hp2 hi2 (by omega)
          clear hc hu hql
          subst hfin
          go_wp2
          go_ret2
          exact ⟨rfl, rfl⟩
end Go.Proofs.Ythmniplbckhgaaa
