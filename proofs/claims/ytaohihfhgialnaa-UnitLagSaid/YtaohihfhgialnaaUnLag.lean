/-
  UnitLag's walk, given what is said of the program's unit.
-/
import Derived.Test.YtaohihfhgialnaaUnRows
import Derived.RegionTactic
import Derived.Deep.RegionHeld3
import Derived.BigQuiet
namespace Go.Proofs.Ytaohihfhgialnaa
open Go.RowKit

theorem run_min_six {P : Program} {w : World} (ts : Array TypeId) (t : TypeId) (x y z : Int) : (Builtin.min_ ts t #[.int .i64 x, .int .i64 y, .int .i64 z]).run P w = .ok (.int .i64 (min (min x y) z)) w := by
  rw [run_min_int3]
  congr 2
  split <;> split <;> omega
attribute [local go_sem ↓] run_min_six

set_option maxRecDepth 100000 in
set_option maxHeartbeats 12800000 in
theorem unitlag_walk (S : UnSaid) (ao bo : Option Addr) (b off nN c b2 off2 nB c2 : Nat) (nu be : Nat → Int) (gr : Int) (w : World) (hN : NArg .u16 w ao b off nN nu) (hB : NArg .u8 w bo b2 off2 nB be) (hn1 : nN ≤ maxLen)
    (hnu : ∀ i, i < nN → 0 ≤ nu i ∧ nu i ≤ 65535) (hbe : ∀ i, i < nB → 0 ≤ be i ∧ be i ≤ 255) (hg0 : 0 ≤ gr) :
    Calls Try.prog 4 #[.slice ao nN c, .slice bo nB c2, .int .u8 gr] w fun e w' => e = .returned (.bool true) ∧ Below w.heap.size w w' := by
  have HAW := Lib.hid (awake15 S w)
  have HL := Lib.hid S.lock
  have HN := Lib.hid (fun V (h : Below w.heap.size w V) => hN.below h)
  have HB := Lib.hid (fun V (h : Below w.heap.size w V) => hB.below h)
  obtain ⟨n, hn⟩ : ∃ n : Nat, min (min nN nB) 6 = n := ⟨_, rfl⟩
  have hnz : min (min (nN : Int) (nB : Int)) 6 = (n : Int) := by omega
  have hnN : n ≤ nN := by omega
  have hnB : n ≤ nB := by omega
  have hn6 : n ≤ 6 := by omega
  have HNU := Lib.hid (fun j (h : j < n) => hnu j (by omega))
  have HBE := Lib.hid (fun j (h : j < n) => hbe j (by omega))
  obtain ⟨g, hg⟩ : ∃ g, 1 + gr % 32 = g := ⟨_, rfl⟩
  have hgr : gr.tmod 32 = gr % 32 := Int.tmod_eq_emod_of_nonneg hg0
  have g1 : 1 ≤ g := by omega
  have g2 : g ≤ 32 := by omega
  unfold maxLen at hn1
  obtain ⟨i0, hi0, hz0, hz1, hz2⟩ := info_parts infoI64
  obtain ⟨u0, hu0, hv0, hv1, hv2⟩ := info_parts infoU64
  clear hN hB hnu hbe hn
  go_enter Try.func4, Try.ntmps4
  go_wp2_with fail
  with_reducible refine HAW.out.mono ?_
  rintro e w1 ⟨rfl, hb1⟩
  have HU0 := Lib.hid (UlR.start hb1)
  clear hb1
  go_wp2
  (try rw [hg])
  clear hg hgr hg0 hnz
  go_loopw [9, 10, 11, 12, 28] (fun f t10 t11 t12 ix wr => ∃ i : Nat, i ≤ n ∧ ix = .int .i64 i ∧ f = .int .u64 (floU nu be i) ∧ Hid (UlR w wr t10 t11 t12 (rng nu i) (rng (wtU be) i) (rng (repU nu be) i))) (fun _ _ _ _ ix _ => n - (intOf ix).toNat)
  case atStart => exact ⟨0, Nat.zero_le _, rfl, rfl, HU0⟩
  case round =>
    obtain ⟨i, hi, rfl, rfl, HU⟩ := hrel
    clear HU0
    by_cases hlt : i < n
    · have hiz : (i : Int) < (n : Int) := by omega
      have hiN : i < nN := by omega
      have hiB : i < nB := by omega
      obtain ⟨b0, b1⟩ := HBE.out i hlt
      obtain ⟨n0, n1⟩ := HNU.out i hlt
      obtain ⟨rfl, cb⟩ := (HB.out wr HU.out.bel).view (show i < nB by omega)
      obtain ⟨rfl, cn⟩ := (HN.out wr HU.out.bel).view (show i < nN by omega)
      obtain ⟨bv, hbv⟩ : ∃ x, be i = x := ⟨_, rfl⟩
      obtain ⟨nv, hnv⟩ : ∃ x, nu i = x := ⟨_, rfl⟩
      rw [hbv] at cb b0 b1
      rw [hnv] at cn n0 n1
      have hbr : bv.tmod 16 = bv % 16 := Int.tmod_eq_emod_of_nonneg b0
      have hwt : wtU be i = 1 + bv % 16 := by unfold wtU; rw [hbv]
      go_wp2_with (at_builtin; refine wpList_append_any _ rfl _ _ 33 rfl 3 i0 (.int .i64 0) 1 8 Try.underlying33 hi0 hz0 hz1 hz2 rfl (by decide) u10 i ((rng nu i).map (Value.int .i64)) rfl (HU.out.alloc _).r10n (some ⟨wr.heap.size, 0, none⟩) 1 1 [.int .i64 nv] rfl rfl (by intro h; cases h) (by intro ad had; cases had; exact new_one _ _ _) (one_i64 _ _) (by unfold maxLen; omega) (by omega) ?_)
      intro a1 c1 W1 hown hgb hnew
      have HU1 := Lib.hid ((HU.out.alloc _).a10 hown hgb (by simpa using hnew) hnv)
      clear hown hgb hnew
      go_wp2_with (at_builtin; refine wpList_append_any _ rfl _ _ 33 rfl 3 i0 (.int .i64 0) 1 8 Try.underlying33 hi0 hz0 hz1 hz2 rfl (by decide) u11 i ((rng (wtU be) i).map (Value.int .i64)) rfl (HU1.out.alloc _).r11n (some ⟨W1.heap.size, 0, none⟩) 1 1 [.int .i64 (1 + bv % 16)] rfl rfl (by intro h; cases h) (by intro ad had; cases had; exact new_one _ _ _) (one_i64 _ _) (by unfold maxLen; omega) (by omega) ?_)
      intro a2 c2' W2 hown hgb hnew
      have HU2 := Lib.hid ((HU1.out.alloc _).a11 hown hgb (by simpa using hnew) hwt)
      clear hown hgb hnew cb cn HU1
      obtain ⟨_, cn⟩ := (HN.out W2 HU2.out.bel).view (show i < nN by omega)
      rw [hnv] at cn
      have HLi := Lib.hid (HL.out (1 + bv % 16))
      obtain ⟨_, l0, l1⟩ := lock_mul (w := 1 + bv % 16) (by omega) (by omega)
      have hrep : repU nu be i = nv * lockR (1 + bv % 16) := by unfold repU; rw [hnv, hwt]
      have hrr := rep_range (nu := nu) (be := be) (i := i) (by omega) (by omega)
      obtain ⟨l, hl⟩ : ∃ x, lockR (1 + bv % 16) = x := ⟨_, rfl⟩
      rw [hl] at HLi hrep l0 l1
      obtain ⟨p, hp⟩ : ∃ x, nv * l = x := ⟨_, rfl⟩
      rw [hp] at hrep
      rw [hrep] at hrr
      have e1 : IntKind.u64.wrap nv = nv := by rw [IntKind.wrap_u64]; omega
      have e2 : IntKind.u64.wrap (nv * l) = p := by rw [hp, IntKind.wrap_u64]; omega
      have e3 : IntKind.u64.wrap p = p := by rw [IntKind.wrap_u64]; omega
      have HCN := Lib.hid (fun V (hV : Below w.heap.size w V) => hnv ▸ ((HN.out V hV).view hiN).2)
      clear hl
      go_wp2_with fail
      go_region_held3 (fun V => V.cell? ⟨b, off + i, none⟩ = some (.int .u16 nv))
        (first | exact HCN.out _ HU4.out.bel | exact HCN.out _ (HU3.out.alloc _).bel | exact HCN.out _ HU3.out.bel | exact cn | exact HCN.out _ HU2.out.bel)
        (first
          | (go_at_call 8; with_reducible refine (HLi.out _).mono ?_; rintro e w3 ⟨rfl, q, rfl⟩; have HU3 := Lib.hid (HU2.out.drewN (1 + q)))
          | (refine step_append_any _ rfl (.tmp 50) (.tmp 59) 34 rfl 23 u0 (.int .u64 0) 1 8 Try.underlying34 hu0 hv0 hv1 hv2 rfl (by decide) u12 i ((rng (repU nu be) i).map (Value.int .u64)) rfl (HU3.out.alloc _).r12n (some ⟨W2.heap.size, 0, none⟩) 1 1 [.int .u64 p] rfl rfl (by intro h; cases h) (by intro ad had; cases had; exact new_one _ _ _) (one_i64 _ _) (by unfold maxLen; omega) (by omega) ?_
             intro a3 c3 W3 hown hgb hnew
             have HU4 := Lib.hid ((HU3.out.alloc _).a12 hown hgb (by simpa using hnew) hrep)
             clear hown hgb hnew)
          | fail)
      all_goals (
        obtain ⟨g3, k3, hv3, _, _⟩ := ownsRow_pos HU4.out.r12n (by omega)
        simp only [Value.slice.injEq] at hv3
        obtain ⟨rfl, _, rfl⟩ := hv3
        have c12 := map_cell HU4.out.r12n (rng_len _ _).symm (show i < i + 1 by omega) ((rng_get (repU nu be) (show i < i + 1 by omega)).trans (by rw [hrep]))
        have hflo : floU nu be (i + 1) = if p < floU nu be i then p else floU nu be i := (show floU nu be (i + 1) = if repU nu be i < floU nu be i then repU nu be i else floU nu be i from rfl).trans (by rw [hrep])
        go_wp2
        go_roundw
        case rel => exact ⟨i + 1, by omega, by go_num, by rw [hflo], HU4⟩
        case measure => simp [intOf]; omega)
    · have hin : i = n := by omega
      subst hin
      clear hlt HN HB HBE hi
      go_wp2
      go_loopw [69] (fun ix V => ∃ j : Nat, j ≤ i ∧ ix = .int .i64 j ∧ Hid (UlR w V u10 u11 u12 (rng nu i) (rng (wtU be) i) (rng (repU nu be) i)) ∧ Hid (∀ k, k < j → repU nu be k ≤ floU nu be i + lockR (wtU be k) * g)) (fun ix _ => i - (intOf ix).toNat)
      case atStart => exact ⟨0, Nat.zero_le _, rfl, HU, Lib.hid (fun k hk => by omega)⟩
      case round =>
        rename World => V
        obtain ⟨j, hj, rfl, HV, HS⟩ := hrel
        by_cases hlt : j < i
        · have hjz : (j : Int) < (i : Int) := by omega
          obtain ⟨g12, k12, rfl, _, _⟩ := ownsRow_pos HV.out.r12n (by omega)
          obtain ⟨g11, k11, rfl, _, _⟩ := ownsRow_pos HV.out.r11n (by omega)
          have c12 := map_cell HV.out.r12n (rng_len _ _).symm hlt (rng_get (repU nu be) hlt)
          have c11 := map_cell HV.out.r11n (rng_len _ _).symm hlt (rng_get (wtU be) hlt)
          have hrr := rep_range (be := be) (HNU.out j hlt).1 (HNU.out j hlt).2
          have hfr := flo_range (nu := nu) (be := be) (i := i) (fun k hk => HNU.out k hk)
          have hfl := flo_le (nu := nu) (be := be) hlt
          obtain ⟨w1', w2'⟩ := wt_range be j
          obtain ⟨_, l0, l1⟩ := lock_mul w1' w2'
          have hnew : repU nu be j ≤ floU nu be i + lockR (wtU be j) * g → Hid (∀ k, k < j + 1 → repU nu be k ≤ floU nu be i + lockR (wtU be k) * g) := fun h => Lib.hid (fun k hk => by
            rcases Nat.lt_or_ge k j with h1 | h1
            · exact HS.out k h1
            · obtain rfl : k = j := by omega
              exact h)
          have HLi := Lib.hid (HL.out (wtU be j))
          generalize wtU be j = x at c11 w1' w2' HLi hnew l0 l1
          generalize repU nu be j = r at c12 hrr hfl hnew
          generalize lockR x = l at HLi hnew l0 l1
          obtain ⟨f, hf⟩ : ∃ y, floU nu be i = y := ⟨_, rfl⟩
          rw [hf] at hfl hfr hnew ⊢
          have hpr : 0 ≤ l * g ∧ l * g ≤ 720720 * 32 := ⟨Int.mul_nonneg (by omega) (by omega), Int.mul_le_mul l1 g2 (by omega) (by omega)⟩
          have e1 : IntKind.u64.wrap g = g := by rw [IntKind.wrap_u64]; omega
          have e2 : IntKind.u64.wrap (l * g) = l * g := by
            generalize l * g = p at hpr
            rw [IntKind.wrap_u64]; omega
          have e3 : IntKind.u64.wrap (f + l * g) = f + l * g := by
            generalize l * g = p at hpr
            rw [IntKind.wrap_u64]; omega
          have HNEW := Lib.hid hnew
          clear hnew
          by_cases hc : f + l * g < r
          · go_wp2_with fail
            go_quiet ((go_at_call 8; exact Calls.quiet_of (HLi.out _)))
            go_wp2
            go_ret
            exact ⟨rfl, (HV.out.drewN nq).bel⟩
          · go_wp2_with fail
            go_quiet ((go_at_call 8; exact Calls.quiet_of (HLi.out _)))
            go_wp2
            go_roundw
            case rel => exact ⟨j + 1, by omega, by go_num, Lib.hid (HV.out.drewN nq), HNEW.out (by omega)⟩
            case measure => simp [intOf]; omega
        · obtain rfl : j = i := by omega
          by_cases h0 : j = 0
          · subst h0
            go_wp2
            go_ret
            exact ⟨rfl, HV.out.bel⟩
          · obtain ⟨g10, k10, rfl, _, _⟩ := ownsRow_pos HV.out.r10n (by omega)
            obtain ⟨g11, k11, rfl, _, _⟩ := ownsRow_pos HV.out.r11n (by omega)
            have hf := S.fair _ g10 0 k10 _ g11 0 k11 (rng nu j) (rng (wtU be) j) ((j : Int) * g) V (row_iarg HV.out.r10n (rng_len _ _).symm) (row_iarg HV.out.r11n (rng_len _ _).symm) (by rw [rng_len]; omega) (by rw [rng_len]; omega)
            rw [rng_len, rng_len, lag_end (by omega) hn6 g1 g2 HNU.out HS.out] at hf
            have HF := Lib.hid hf
            clear hf
            have h0z : ((j : Int) == 0) = false := by simpa using h0
            have hjg : 0 ≤ (j : Int) * g ∧ (j : Int) * g ≤ 6 * 32 := ⟨Int.mul_nonneg (by omega) (by omega), Int.mul_le_mul (by omega) g2 (by omega) (by omega)⟩
            have e1 : IntKind.i64.wrap ((j : Int) * g) = (j : Int) * g := by
              generalize (j : Int) * g = p at hjg
              rw [IntKind.wrap_i64]; omega
            go_wp2_with fail
            with_reducible refine HF.out.mono ?_
            rintro e w5 ⟨rfl, hb⟩
            have HBE := Lib.hid (HV.out.bel.trans (hb.mono HV.out.bel.size))
            clear hb
            go_wp2
            go_ret
            exact ⟨rfl, HBE.out⟩
end Go.Proofs.Ytaohihfhgialnaa
