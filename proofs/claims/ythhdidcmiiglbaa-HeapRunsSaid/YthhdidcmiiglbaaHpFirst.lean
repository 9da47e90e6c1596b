/-
  The document's heap: First.
-/
import Derived.Test.YthhdidcmiiglbaaHpRef
namespace Go.Proofs.Ythhdidcmiiglbaa
open Go.RowKit

theorem best_low {L : List It} {k : Nat} (h : bestI L k < 0) : bestI L (k + 1) = k := by simp [bestI, h]
theorem best_new {L : List It} {k j : Nat} (h : bestI L k = j) (ha : ahead (L.getD k (0, 0, 0)) (L.getD j (0, 0, 0)) = true) : bestI L (k + 1) = k := by
  simp only [bestI, h, Int.toNat_natCast, ha, if_true]
  split <;> rfl
theorem best_old {L : List It} {k j : Nat} (h : bestI L k = j) (ha : ahead (L.getD k (0, 0, 0)) (L.getD j (0, 0, 0)) = false) : bestI L (k + 1) = j := by
  simp only [bestI, h, Int.toNat_natCast, ha]
  rw [if_neg (by omega)]
  simp

set_option maxRecDepth 100000 in
set_option maxHeartbeats 1600000 in
theorem rfirst_any {w : World} {b : Nat} {X : List Nat} {m : Int} {L : List It} (h : R4 w b X m L) :
    Calls Try.prog 12 #[.pointer (some ⟨b, 0, none⟩)] w fun e w' => e = .returned (.int .i64 (firstI L)) ∧ ∃ n, w' = w.drewN n := by
  have hlen : L.length ≤ maxLen := by obtain ⟨a, cap, _, _, _, hc, hm, _⟩ := h.view; omega
  obtain ⟨a, cap, c0, c1, hr⟩ := h.rows
  have HR := Lib.hid hr
  have hlen2 : L.length ≤ 9223372036854775807 := by simpa [maxLen] using hlen
  clear hlen
  clear h hr
  go_enter Try.func12, Try.ntmps12
  go_wp2
  go_loopw [3, 4] (fun c i wr => ∃ (k : Nat) (z : Int), i = .int .i64 k ∧ c = .int .i64 z ∧ Hid (∃ n, wr = w.drewN n) ∧ k ≤ L.length ∧ Hid (bestI L k = z)) (fun _ i _ => L.length - (intOf i).toNat)
  case atStart => exact ⟨0, -1, rfl, rfl, Lib.hid ⟨0, rfl⟩, by omega, Lib.hid rfl⟩
  case round =>
    obtain ⟨k, z, rfl, rfl, HW, hk, HP⟩ := hrel
    have d0 : wr.cell? ⟨b, 0, none⟩ = some (.int .i64 m) := by obtain ⟨n, rfl⟩ := HW.out; exact c0
    have d1 : wr.cell? ⟨b, 1, none⟩ = some (.slice a L.length cap) := by obtain ⟨n, rfl⟩ := HW.out; exact c1
    have DR : Hid (∀ j (_ : j < L.length), ∃ g, a = some ⟨g, 0, none⟩ ∧ wr.cell? ⟨g, j * 3, none⟩ = some (.int .u64 (L.getD j (0, 0, 0)).1) ∧ wr.cell? ⟨g, j * 3 + 1, none⟩ = some (.int .i64 (L.getD j (0, 0, 0)).2.1) ∧ wr.cell? ⟨g, j * 3 + 2, none⟩ = some (.int .i64 (L.getD j (0, 0, 0)).2.2)) := by
      obtain ⟨n, rfl⟩ := HW.out
      exact HR.out
    have HN : Hid (∀ q, ∃ n, wr.drewN q = w.drewN n) := by
      obtain ⟨n, rfl⟩ := HW.out
      exact fun q => ⟨n + q, by simp⟩
    by_cases hlt : k < L.length
    · have i0 : (0 : Int) ≤ k := by omega
      have i1 : (k : Int) < L.length := by omega
      by_cases hz : z < 0
      · have z1 : decide (z < 0) = true := by simpa using hz
        go_wp2
        refine wp_region_quiet_lit (by kernel_rfl) (by kernel_rfl) ?_
        try simp only [List.append_eq, List.cons_append, List.nil_append]
        repeat (go_big_quiet_step (fail))
        refine wpQuiet_nil ?_
        rintro _ ⟨nq, rfl⟩
        go_wp2
        go_roundw
        case rel => exact ⟨k + 1, k, by go_num, rfl, HN.out _, by omega, Lib.hid (best_low (by rw [HP.out]; exact hz))⟩
        case measure => simp [intOf]; omega
      · obtain ⟨j, rfl⟩ := Int.eq_ofNat_of_zero_le (show 0 ≤ z by omega)
        have hjk : j < k := by
          have h1 := (bestI_range L k).2.1
          rw [HP.out] at h1
          omega
        obtain ⟨g, rfl, r0, r1, r2⟩ := DR.out k hlt
        obtain ⟨g', hg', s0, s1, s2⟩ := DR.out j (by omega)
        simp only [Option.some.injEq, Addr.mk.injEq, and_true] at hg'
        subst hg'
        have j0 : (0 : Int) ≤ j := by omega
        have j1 : (j : Int) < L.length := by omega
        obtain ⟨x, hx⟩ : ∃ x, L.getD k (0, 0, 0) = x := ⟨_, rfl⟩
        obtain ⟨y, hy⟩ : ∃ y, L.getD j (0, 0, 0) = y := ⟨_, rfl⟩
        rw [hx] at r0 r1
        rw [hy] at s0 s1
        obtain ⟨x1, x2, x3⟩ := x
        obtain ⟨y1, y2, y3⟩ := y
        simp only at r0 r1 s0 s1
        have HX := Lib.hid hx
        have HY := Lib.hid hy
        have z1 : decide ((j : Int) < 0) = false := by simp
        clear hx hy r2 s2 hz
        by_cases h1 : x1 < y1
        · have e : ahead (x1, x2, x3) (y1, y2, y3) = true := by simp [ahead, h1]
          have E := Lib.hid e
          have z2 : decide (x1 < y1) = true := by simpa using h1
          clear e
          go_wp2
          refine wp_region_quiet_lit (by kernel_rfl) (by kernel_rfl) ?_
          try simp only [List.append_eq, List.cons_append, List.nil_append]
          repeat (go_big_quiet_step (fail))
          refine wpQuiet_nil ?_
          rintro _ ⟨nq, rfl⟩
          go_wp2
          go_roundw
          case rel => exact ⟨k + 1, k, by go_num, rfl, HN.out _, by omega, Lib.hid (best_new HP.out (by rw [HX.out, HY.out]; exact E.out))⟩
          case measure => simp [intOf]; omega
        · have z2 : decide (x1 < y1) = false := by simpa using h1
          by_cases h2 : x1 = y1
          · subst h2
            have z3 : (x1 == x1) = true := by simp
            by_cases h3 : x2 < y2
            · have e : ahead (x1, x2, x3) (x1, y2, y3) = true := by simp [ahead, h3]
              have E := Lib.hid e
              have z4 : decide (x2 < y2) = true := by simpa using h3
              clear e h1
              go_wp2
              refine wp_region_quiet_lit (by kernel_rfl) (by kernel_rfl) ?_
              try simp only [List.append_eq, List.cons_append, List.nil_append]
              repeat (go_big_quiet_step (fail))
              refine wpQuiet_nil ?_
              rintro _ ⟨nq, rfl⟩
              go_wp2
              go_roundw
              case rel => exact ⟨k + 1, k, by go_num, rfl, HN.out _, by omega, Lib.hid (best_new HP.out (by rw [HX.out, HY.out]; exact E.out))⟩
              case measure => simp [intOf]; omega
            · have e : ahead (x1, x2, x3) (x1, y2, y3) = false := by simp [ahead]; omega
              have E := Lib.hid e
              have z4 : decide (x2 < y2) = false := by simpa using h3
              clear e h1
              go_wp2
              refine wp_region_quiet_lit (by kernel_rfl) (by kernel_rfl) ?_
              try simp only [List.append_eq, List.cons_append, List.nil_append]
              repeat (go_big_quiet_step (fail))
              refine wpQuiet_nil ?_
              rintro _ ⟨nq, rfl⟩
              go_wp2
              go_roundw
              case rel => exact ⟨k + 1, j, by go_num, rfl, HN.out _, by omega, Lib.hid (best_old HP.out (by rw [HX.out, HY.out]; exact E.out))⟩
              case measure => simp [intOf]; omega
          · have e : ahead (x1, x2, x3) (y1, y2, y3) = false := by simp [ahead]; omega
            have E := Lib.hid e
            have z3 : (x1 == y1) = false := by simpa using h2
            clear e
            go_wp2
            refine wp_region_quiet_lit (by kernel_rfl) (by kernel_rfl) ?_
            try simp only [List.append_eq, List.cons_append, List.nil_append]
            repeat (go_big_quiet_step (fail))
            refine wpQuiet_nil ?_
            rintro _ ⟨nq, rfl⟩
            go_wp2
            go_roundw
            case rel => exact ⟨k + 1, j, by go_num, rfl, HN.out _, by omega, Lib.hid (best_old HP.out (by rw [HX.out, HY.out]; exact E.out))⟩
            case measure => simp [intOf]; omega
    · have hk' : k = L.length := by omega
      subst hk'
      have HF := Lib.hid (show firstI L = z from HP.out)
      go_wp2
      go_ret
      rw [HF.out]
      exact ⟨rfl, HW.out⟩
end Go.Proofs.Ythhdidcmiiglbaa
