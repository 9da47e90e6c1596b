/-
  The laws of layer 7: MixCalls.
-/
import Derived.Test.YtnfgpjbdokheiaaMixLaw
import Derived.Laws.Bits64b
namespace Go.Proofs.Ytnfgpjbdokheiaa
open Go.RowKit

/-- A row of integers, its cells. -/
theorem ints_cells {w : World} {base n cap : Nat} {a : Option Addr} {L : List Int} (h : w.ownsRow base 3 1 (.slice a n cap) n (intsOf L)) (hn : n = L.length) :
    ∀ t, t < n → ∃ g, a = some ⟨g, 0, none⟩ ∧ w.cell? ⟨g, t, none⟩ = some (.int .i64 (L.getD t 0)) := by
  intro t ht
  obtain ⟨g, cap', hv, _, _⟩ := ownsRow_pos h (by omega)
  simp only [Value.slice.injEq] at hv
  obtain ⟨rfl, _, rfl⟩ := hv
  exact ⟨g, rfl, by rw [h.cellAt _ (by omega)]; exact ints_get (by omega)⟩
theorem pow_wrap {u : Nat} (hu : u < 64) : IntKind.u64.wrap ((2 : Int) ^ u) = ((2 ^ u : Nat) : Int) := by
  have e : ((2 : Int) ^ u) = ((2 ^ u : Nat) : Int) := by push_cast; rfl
  have h2 : 2 ^ u < 18446744073709551616 := Nat.lt_of_lt_of_le (Nat.pow_lt_pow_right (by decide) hu) (by decide)
  rw [e]
  generalize 2 ^ u = p at h2
  rw [IntKind.wrap_u64]
  omega

set_option maxRecDepth 100000 in
set_option maxHeartbeats 1600000 in
theorem calls_any (hO : OrdSaid) (x : Nat) (key n : Int) (w : World) (hx : x < 18446744073709551616) (hn : n ≤ 9223372036854775807) :
    Calls Try.prog 3 #[.int .u64 x, .int .i64 key, .int .i64 n] w fun e w' => e = .returned (.bool true) ∧ Below w.heap.size w w' := by
  have HA := Lib.hid (fun W => awake7 hO W)
  have HM := Lib.hid (fun W => mix_any x W)
  have HR := Lib.hid (fun W => rmix_any x W)
  have HB := Lib.hid (fun W => buc_any key n W hn)
  have HC := Lib.hid (fun W => rbuc_any key n W hn)
  have HO := Lib.hid (fun W => hO x n W hx)
  have HP := Lib.hid (fun W => rord_any x n W)
  have hlen := order_len x n
  have hrng := order_range x n
  have hseen := order_seen x n
  obtain ⟨L, hL⟩ : ∃ L, orderOf x n = L := ⟨_, rfl⟩
  obtain ⟨M, hM⟩ : ∃ M, (min (max n 0) 64).toNat = M := ⟨_, rfl⟩
  obtain ⟨z, hz⟩ : ∃ z, mixN x = z := ⟨_, rfl⟩
  obtain ⟨q, hq⟩ : ∃ q, bucI key n = q := ⟨_, rfl⟩
  rw [hL, hM] at HO HP hlen
  rw [hL] at hrng hseen
  rw [hz] at HM HR
  rw [hq] at HB HC
  have hM64 : M ≤ 64 := by omega
  have z1 : ((z : Int) != (z : Int)) = false := by simp
  have q1 : (q != q) = false := by simp
  have HLEN := Lib.hid hlen
  have HRNG := Lib.hid hrng
  have HSEEN := Lib.hid hseen
  clear hL hM hz hq hlen hrng hseen hx
  go_enter Try.func3, Try.ntmps3
  go_wp2_with fail
  refine (HA.out _).mono ?_
  rintro e w1 ⟨rfl, hb1⟩
  have HB1 := Lib.hid hb1
  clear hb1
  go_wp2_with fail
  refine (HM.out _).mono ?_
  rintro e w2 ⟨rfl, rfl⟩
  go_wp2_with fail
  refine (HR.out _).mono ?_
  rintro e w2 ⟨rfl, n1, rfl⟩
  go_wp2_with fail
  refine (HB.out _).mono ?_
  rintro e w2 ⟨rfl, rfl⟩
  go_wp2_with fail
  refine (HC.out _).mono ?_
  rintro e w2 ⟨rfl, n2, rfl⟩
  go_wp2_with fail
  refine (HO.out _).mono ?_
  rintro e w3 ⟨v, rfl, hown, hb3⟩
  obtain ⟨a, cap, rfl⟩ := ord_shape hown
  have HO3 := Lib.hid hown
  have HB3 := Lib.hid hb3
  clear hown hb3
  go_wp2_with fail
  refine (HP.out _).mono ?_
  rintro e w4 ⟨v, rfl, hown, hb4⟩
  obtain ⟨a2, cap2, rfl⟩ := ord_shape hown
  have hown3 : w4.ownsRow _ 3 1 (.slice a M cap) M (intsOf L) := ownsRow_same HO3.out fun k hk hl => hb4.block k hl
  have HC3 := Lib.hid (ints_cells hown3 HLEN.out.symm)
  have HC4 := Lib.hid (ints_cells hown HLEN.out.symm)
  have HB4 := Lib.hid (((below_drewN HB1.out (n1 + n2)).trans (HB3.out.mono (by simpa using HB1.out.size))).trans (hb4.mono (Nat.le_trans (by simpa using HB1.out.size) HB3.out.size)))
  clear hown hb4 hown3
  go_wp2
  go_loop [9, 41] (fun s j => ∃ t : Nat, j = .int .i64 t ∧ t ≤ M ∧ s = .int .u64 (seenN (L.take t) : Int)) (fun _ j => M - (intOf j).toNat)
  case atStart => exact ⟨0, rfl, Nat.zero_le _, rfl⟩
  case round =>
    obtain ⟨t, rfl, ht, rfl⟩ := hrel
    by_cases hlt : t < M
    · obtain ⟨g, rfl, r1⟩ := HC3.out t hlt
      obtain ⟨g2, rfl, r2⟩ := HC4.out t hlt
      have hl : t < L.length := by rw [HLEN.out]; exact hlt
      have hd : L.getD t 0 = L[t] := by simp [hl]
      have hy := HRNG.out L[t] (List.getElem_mem hl)
      have hss := seen_snoc (L.take t) L[t]
      rw [← List.take_succ_eq_append_getElem hl] at hss
      have hsl := seen_lt (L := L.take t) (fun v hv => HRNG.out v (List.mem_of_mem_take hv))
      rw [hd] at r1 r2
      obtain ⟨y, hyd⟩ : ∃ y, L[t] = y := ⟨_, rfl⟩
      rw [hyd] at r1 r2 hy hss
      obtain ⟨u, rfl⟩ := Int.eq_ofNat_of_zero_le hy.1
      have hu : u < 64 := by omega
      obtain ⟨s, hs⟩ : ∃ s, seenN (L.take t) = s := ⟨_, rfl⟩
      rw [hs] at hss hsl ⊢
      have hp := pow_wrap hu
      have hpl : 2 ^ u < 18446744073709551616 := Nat.lt_of_lt_of_le (Nat.pow_lt_pow_right (by decide) hu) (by decide)
      simp only [Int.toNat_natCast] at hss
      obtain ⟨p, hpp⟩ : ∃ p, 2 ^ u = p := ⟨_, rfl⟩
      rw [hpp] at hp hpl hss
      have ho := bits_or_u64_nat s p hsl hpl
      rw [← hss] at ho
      have y1 : ((u : Int) != (u : Int)) = false := by simp
      have y2 : decide ((u : Int) < 0) = false := by simp
      have y3 : decide ((63 : Int) < (u : Int)) = false := by simp; omega
      have i0 : (0 : Int) ≤ t := by omega
      have i1 : (t : Int) < M := by omega
      have u0 : (0 : Int) ≤ (u : Int) := by omega
      obtain ⟨s2, hs2⟩ : ∃ s, seenN (L.take (t + 1)) = s := ⟨_, rfl⟩
      rw [hs2] at ho
      have HS2 := Lib.hid hs2
      clear hy hss hsl hyd hs hpl hpp hs2 hd
      go_wp2
      go_round
      case rel => exact ⟨t + 1, by go_num, by omega, by rw [HS2.out]⟩
      case measure => simp [intOf]; omega
    · have htM : t = M := by omega
      subst htM
      have hse := HSEEN.out
      rw [HLEN.out] at hse
      rw [List.take_of_length_le (by rw [HLEN.out]; exact Nat.le_refl _), hse]
      clear hse
      by_cases h64 : t = 64
      · subst h64
        obtain ⟨s, hs⟩ : ∃ s : Nat, 2 ^ 64 - 1 = s := ⟨_, rfl⟩
        rw [hs]
        clear hs
        go_wp2
        go_ret
        exact ⟨rfl, HB4.out⟩
      · have ht64 : t < 64 := by omega
        have hp := pow_wrap ht64
        have hpl : 2 ^ t < 18446744073709551616 := Nat.lt_of_lt_of_le (Nat.pow_lt_pow_right (by decide) ht64) (by decide)
        have hpos : 0 < 2 ^ t := Nat.pow_pos (by decide)
        obtain ⟨p, hpp⟩ : ∃ p, 2 ^ t = p := ⟨_, rfl⟩
        rw [hpp] at hp hpl hpos ⊢
        obtain ⟨s, hs⟩ : ∃ s, p - 1 = s := ⟨_, rfl⟩
        have hm : IntKind.u64.wrap ((p : Int) - 1) = (s : Int) := by rw [IntKind.wrap_u64]; omega
        rw [hs]
        have e1 : ((t : Int) == 64) = false := by rw [beq_eq_false_iff_ne]; omega
        have e2 : ((s : Int) == (s : Int)) = true := by simp
        have t0 : (0 : Int) ≤ t := by omega
        clear hpp hpl hpos hs h64
        go_wp2
        go_ret
        exact ⟨rfl, HB4.out⟩
end Go.Proofs.Ytnfgpjbdokheiaa
