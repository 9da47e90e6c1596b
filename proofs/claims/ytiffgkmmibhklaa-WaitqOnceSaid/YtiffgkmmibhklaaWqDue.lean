/-
  The document's waiters: Due.
-/
import Derived.Test.YtiffgkmmibhklaaWqPut
namespace Go.Proofs.Ytiffgkmmibhklaa
open Go.RowKit

/-- The table's row, in every later world. -/
theorem R8.fix {w : World} {b : Nat} {X : List Nat} {m e : Int} {L : List Wt} (h : R8 w b X m e L) :
    ∃ a cap, ∀ W, Turned [] w W → W.cell? ⟨b, 1, none⟩ = some (.int .i64 e) ∧ W.cell? ⟨b, 2, none⟩ = some (.slice a L.length cap) ∧
      ∀ j (_ : j < L.length), ∃ g, a = some ⟨g, 0, none⟩ ∧ W.cell? ⟨g, j * 3, none⟩ = some (.int .i64 (L.getD j (0, 0, 0)).1) ∧ W.cell? ⟨g, j * 3 + 1, none⟩ = some (.int .i64 (L.getD j (0, 0, 0)).2.1) ∧ W.cell? ⟨g, j * 3 + 2, none⟩ = some (.int .u64 (L.getD j (0, 0, 0)).2.2) := by
  obtain ⟨a, cap, h1, h2, h3, hc, hm, hg⟩ := h.view
  refine ⟨a, cap, fun W t => ?_⟩
  obtain ⟨_, c1, c2, _⟩ := cellsT (t.same h1 (by simp))
  refine ⟨c1, c2, fun j hj => ?_⟩
  obtain ⟨g, hg | hg⟩ := hg j hj
  · obtain ⟨rfl, hbg⟩ := hg
    have r := row_cells encW_len (ownsRow_same h2 fun k _ hl => t.block k hl (by simp)) hj
    have hd : L.getD j (0, 0, 0) = L[j] := by simp [List.getD, hj]
    rw [hd]
    exact ⟨g, rfl, (r 0 (by omega)).1, (r 1 (by omega)).1, (r 2 (by omega)).1⟩
  · exact absurd hg (by decide)

/-- Is x due ahead of y? Is x's time over? -/
def aheadW (x y : Wt) : Bool := decide (x.2.2 < y.2.2) || (decide (x.2.2 = y.2.2) && decide (x.1 < y.1))
def overW (now : Int) (x : Wt) : Bool := !decide (x.2.2 = 0) && decide (x.2.2 ≤ now)
/-- The place of the one whose time is over first, among the first k; below 0. -/
def dueI (L : List Wt) (now : Int) : Nat → Int
  | 0 => -1
  | k + 1 => if overW now (L.getD k (0, 0, 0)) = false then dueI L now k else if dueI L now k < 0 then k else if aheadW (L.getD k (0, 0, 0)) (L.getD (dueI L now k).toNat (0, 0, 0)) then k else dueI L now k
theorem dueI_range (L : List Wt) (now : Int) : ∀ k, -1 ≤ dueI L now k ∧ dueI L now k < k
  | 0 => by simp [dueI]
  | k + 1 => by
    have ih := dueI_range L now k
    simp only [dueI]
    split
    · omega
    · split
      · omega
      · split <;> omega
theorem due_skip {L : List Wt} {now : Int} {k : Nat} (h : overW now (L.getD k (0, 0, 0)) = false) : dueI L now (k + 1) = dueI L now k := by simp only [dueI, h, if_true]
theorem due_low {L : List Wt} {now : Int} {k : Nat} (h : overW now (L.getD k (0, 0, 0)) = true) (hz : dueI L now k < 0) : dueI L now (k + 1) = k := by
  simp only [dueI]
  rw [h, if_neg (by simp), if_pos hz]
theorem due_new {L : List Wt} {now : Int} {k j : Nat} (h : overW now (L.getD k (0, 0, 0)) = true) (hz : dueI L now k = j) (ha : aheadW (L.getD k (0, 0, 0)) (L.getD j (0, 0, 0)) = true) : dueI L now (k + 1) = k := by
  simp only [dueI, h, hz, Int.toNat_natCast, ha, if_true]
  simp
theorem due_old {L : List Wt} {now : Int} {k j : Nat} (h : overW now (L.getD k (0, 0, 0)) = true) (hz : dueI L now k = j) (ha : aheadW (L.getD k (0, 0, 0)) (L.getD j (0, 0, 0)) = false) : dueI L now (k + 1) = j := by
  simp only [dueI, h, hz, Int.toNat_natCast, ha]
  rw [if_neg (by simp), if_neg (by omega)]
  simp

set_option maxRecDepth 100000 in
set_option maxHeartbeats 3200000 in
theorem rdue_any {w : World} {b : Nat} {X : List Nat} {m e : Int} {L : List Wt} (h : R8 w b X m e L) (now : Int) :
    Calls Try.prog 34 #[.pointer (some ⟨b, 0, none⟩), .int .u64 now] w fun r w' => r = .returned (.int .i64 (dueI L now L.length)) ∧ Turned [] w w' := by
  have hlen := h.len
  obtain ⟨a, cap, hf⟩ := h.fix
  have HF := Lib.hid hf
  have hlen2 : L.length ≤ 9223372036854775807 := by simpa [maxLen] using hlen
  clear hlen h hf
  go_enter Try.func34, Try.ntmps34
  go_wp2
  go_loopw [5, 6] (fun c i wr => ∃ (k : Nat) (z : Int), i = .int .i64 k ∧ c = .int .i64 z ∧ Hid (Turned [] w wr) ∧ k ≤ L.length ∧ Hid (dueI L now k = z)) (fun _ i _ => L.length - (intOf i).toNat)
  case atStart => exact ⟨0, -1, rfl, rfl, Lib.hid (Turned.refl _ _), by omega, Lib.hid rfl⟩
  case round =>
    obtain ⟨k, z, rfl, rfl, HW, hk, HP⟩ := hrel
    obtain ⟨_, d2, DR⟩ := HF.out wr HW.out
    by_cases hlt : k < L.length
    · have i0 : (0 : Int) ≤ k := by omega
      have i1 : (k : Int) < L.length := by omega
      obtain ⟨g, rfl, r0, r1, r2⟩ := DR k hlt
      obtain ⟨x, hx⟩ : ∃ x, L.getD k (0, 0, 0) = x := ⟨_, rfl⟩
      rw [hx] at r0 r1 r2
      obtain ⟨x1, x2, x3⟩ := x
      simp only at r0 r1 r2
      have HX := Lib.hid hx
      have TA := Lib.hid (HW.out.alloc (.cells #[.int .i64 x1, .int .i64 x2, .int .u64 x3] tW))
      obtain ⟨_, D2, DA⟩ := HF.out _ TA.out
      have DH := Lib.hid DA
      clear hx DR DA
      by_cases hu0 : x3 = 0
      · have hov := Lib.hid (show overW now (L.getD k (0, 0, 0)) = false by rw [HX.out]; simp [overW, hu0])
        subst hu0
        clear D2
        go_wp2
        go_roundw
        case rel => exact ⟨k + 1, z, by go_num, rfl, TA, by omega, Lib.hid (by rw [due_skip hov.out]; exact HP.out)⟩
        case measure => simp [intOf]; omega
      · have u0 : (x3 == 0) = false := by simpa using hu0
        by_cases hu1 : now < x3
        · have u1 : decide (now < x3) = true := by simpa using hu1
          have hov := Lib.hid (show overW now (L.getD k (0, 0, 0)) = false by rw [HX.out]; simp [overW]; omega)
          clear D2
          go_wp2
          go_roundw
          case rel => exact ⟨k + 1, z, by go_num, rfl, TA, by omega, Lib.hid (by rw [due_skip hov.out]; exact HP.out)⟩
          case measure => simp [intOf]; omega
        · have u1 : decide (now < x3) = false := by simpa using hu1
          have hov := Lib.hid (show overW now (L.getD k (0, 0, 0)) = true by rw [HX.out]; simp [overW, hu0]; omega)
          by_cases hz : z < 0
          · have z1 : decide (z < 0) = true := by simpa using hz
            clear hu1
            go_wp2
            refine wp_region_quiet_lit (by kernel_rfl) (by kernel_rfl) ?_
            try simp only [List.append_eq, List.cons_append, List.nil_append]
            repeat (go_big_quiet_step (fail))
            refine wpQuiet_nil ?_
            rintro _ ⟨nq, rfl⟩
            go_wp2
            go_roundw
            case rel => exact ⟨k + 1, k, by go_num, rfl, Lib.hid (TA.out.drewN nq), by omega, Lib.hid (due_low hov.out (by rw [HP.out]; exact hz))⟩
            case measure => simp [intOf]; omega
          · obtain ⟨j, rfl⟩ := Int.eq_ofNat_of_zero_le (show 0 ≤ z by omega)
            have hjk : j < k := by
              have h1 := (dueI_range L now k).2
              rw [HP.out] at h1
              omega
            obtain ⟨g', hg', s0, s1, s2⟩ := DH.out j (by omega)
            simp only [Option.some.injEq, Addr.mk.injEq, and_true] at hg'
            subst hg'
            have j0 : (0 : Int) ≤ j := by omega
            have j1 : (j : Int) < L.length := by omega
            obtain ⟨y, hy⟩ : ∃ y, L.getD j (0, 0, 0) = y := ⟨_, rfl⟩
            rw [hy] at s0 s2
            obtain ⟨y1, y2, y3⟩ := y
            simp only at s0 s2
            have HY := Lib.hid hy
            have z1 : decide ((j : Int) < 0) = false := by simp
            clear hy s1 hz hu1
            by_cases h1 : x3 < y3
            · have E := Lib.hid (show aheadW (x1, x2, x3) (y1, y2, y3) = true by simp [aheadW, h1])
              have z2 : decide (x3 < y3) = true := by simpa using h1
              go_wp2
              refine wp_region_quiet_lit (by kernel_rfl) (by kernel_rfl) ?_
              try simp only [List.append_eq, List.cons_append, List.nil_append]
              repeat (go_big_quiet_step (fail))
              refine wpQuiet_nil ?_
              rintro _ ⟨nq, rfl⟩
              go_wp2
              go_roundw
              case rel => exact ⟨k + 1, k, by go_num, rfl, Lib.hid (TA.out.drewN nq), by omega, Lib.hid (due_new hov.out HP.out (by rw [HX.out, HY.out]; exact E.out))⟩
              case measure => simp [intOf]; omega
            · have z2 : decide (x3 < y3) = false := by simpa using h1
              by_cases h2 : x3 = y3
              · subst h2
                have z3 : (x3 == x3) = true := by simp
                by_cases h3 : x1 < y1
                · have E := Lib.hid (show aheadW (x1, x2, x3) (y1, y2, x3) = true by simp [aheadW, h3])
                  have z4 : decide (x1 < y1) = true := by simpa using h3
                  clear h1
                  go_wp2
                  refine wp_region_quiet_lit (by kernel_rfl) (by kernel_rfl) ?_
                  try simp only [List.append_eq, List.cons_append, List.nil_append]
                  repeat (go_big_quiet_step (fail))
                  refine wpQuiet_nil ?_
                  rintro _ ⟨nq, rfl⟩
                  go_wp2
                  go_roundw
                  case rel => exact ⟨k + 1, k, by go_num, rfl, Lib.hid (TA.out.drewN nq), by omega, Lib.hid (due_new hov.out HP.out (by rw [HX.out, HY.out]; exact E.out))⟩
                  case measure => simp [intOf]; omega
                · have E := Lib.hid (show aheadW (x1, x2, x3) (y1, y2, x3) = false by simp [aheadW]; omega)
                  have z4 : decide (x1 < y1) = false := by simpa using h3
                  clear h1
                  go_wp2
                  refine wp_region_quiet_lit (by kernel_rfl) (by kernel_rfl) ?_
                  try simp only [List.append_eq, List.cons_append, List.nil_append]
                  repeat (go_big_quiet_step (fail))
                  refine wpQuiet_nil ?_
                  rintro _ ⟨nq, rfl⟩
                  go_wp2
                  go_roundw
                  case rel => exact ⟨k + 1, j, by go_num, rfl, Lib.hid (TA.out.drewN nq), by omega, Lib.hid (due_old hov.out HP.out (by rw [HX.out, HY.out]; exact E.out))⟩
                  case measure => simp [intOf]; omega
              · have E := Lib.hid (show aheadW (x1, x2, x3) (y1, y2, y3) = false by simp [aheadW]; omega)
                have z3 : (x3 == y3) = false := by simpa using h2
                go_wp2
                refine wp_region_quiet_lit (by kernel_rfl) (by kernel_rfl) ?_
                try simp only [List.append_eq, List.cons_append, List.nil_append]
                repeat (go_big_quiet_step (fail))
                refine wpQuiet_nil ?_
                rintro _ ⟨nq, rfl⟩
                go_wp2
                go_roundw
                case rel => exact ⟨k + 1, j, by go_num, rfl, Lib.hid (TA.out.drewN nq), by omega, Lib.hid (due_old hov.out HP.out (by rw [HX.out, HY.out]; exact E.out))⟩
                case measure => simp [intOf]; omega
    · have hk' : k = L.length := by omega
      subst hk'
      clear DR
      go_wp2
      go_ret
      rw [HP.out]
      exact ⟨rfl, HW.out⟩
end Go.Proofs.Ytiffgkmmibhklaa
