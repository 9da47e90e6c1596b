/-
  The program's within, Core, Lock, Reach, Slack, Clamp.
-/
import Derived.Test.YtaohihfhgialnaaUnRef
import Derived.Test.YtaohihfhgialnaaFixEasy
namespace Go.Proofs.Ytaohihfhgialnaa
open Go.RowKit

theorem run_max_un {P : Program} {w : World} (ts : Array TypeId) (t : TypeId) (k : IntKind) (x y : Int) : (Builtin.max_ ts t #[.int k x, .int k y]).run P w = .ok (.int k (max x y)) w := by
  rw [run_max_int2]
  congr 2
  split <;> omega
theorem run_min_un {P : Program} {w : World} (ts : Array TypeId) (t : TypeId) (k : IntKind) (x y : Int) : (Builtin.min_ ts t #[.int k x, .int k y]).run P w = .ok (.int k (min x y)) w := by
  rw [run_min_int2]
  congr 2
  split <;> omega
attribute [local go_sem ↓] run_min_un run_max_un
theorem bring_minmax {n lo hi : Int} (h : lo ≤ hi) : min (max n lo) hi = bringR n lo hi := by
  unfold bringR
  split
  · omega
  · split <;> omega
theorem within_any (n lo hi : Int) (h : lo ≤ hi) (h0 : 0 ≤ lo) (h1 : hi ≤ 4611686018427387904) (w : World) :
    Calls Try.prog 17 #[.int .i64 n, .int .i64 lo, .int .i64 hi] w fun e w' => e = .returned (.int .u64 (bringR n lo hi)) ∧ w' = w := by
  have hb := bring_range (n := n) h
  rw [← bring_minmax h] at hb ⊢
  have hw : IntKind.u64.wrap (min (max n lo) hi) = min (max n lo) hi := by rw [IntKind.wrap_u64]; omega
  go_enter Try.func17, Try.ntmps17
  go_wp2
  go_ret
  exact ⟨rfl, rfl⟩
theorem ucore_any (n : Int) (w : World) : Calls Try.prog 6 #[.int .i64 n] w fun e w' => e = .returned (.int .u64 (coreR n)) ∧ w' = w := by
  have HB := Lib.hid (within_any n 1 4096 (by decide) (by decide) (by decide) w)
  have hr := core_range n
  have hb := bring_range (n := n) (lo := 1) (hi := 4096) (by decide)
  unfold coreR at hr ⊢
  obtain ⟨b, hbb⟩ : ∃ b, bringR n 1 4096 = b := ⟨_, rfl⟩
  rw [hbb] at HB hr hb ⊢
  have hq : (1099511627776 : Int).tdiv b = 1099511627776 / b := Int.tdiv_eq_ediv_of_nonneg (by decide)
  obtain ⟨q, hqq⟩ : ∃ q, 1099511627776 / b = q := ⟨_, rfl⟩
  rw [hqq] at hq hr ⊢
  have hw2 : IntKind.u64.wrap q = q := by rw [IntKind.wrap_u64]; omega
  have hn : ¬ b = 0 := by omega
  clear hbb hqq
  go_enter Try.func6, Try.ntmps6
  go_wp2_with fail
  with_reducible refine HB.out.mono ?_
  rintro e w1 ⟨rfl, rfl⟩
  go_wp2
  go_ret
  exact ⟨rfl, rfl⟩
theorem ulock_any (n : Int) (w : World) : Calls Try.prog 8 #[.int .i64 n] w fun e w' => e = .returned (.int .u64 (lockR n)) ∧ w' = w := by
  have HB := Lib.hid (within_any n 1 16 (by decide) (by decide) (by decide) w)
  have hr := lock_range n
  have hb := bring_range (n := n) (lo := 1) (hi := 16) (by decide)
  unfold lockR at hr ⊢
  obtain ⟨b, hbb⟩ : ∃ b, bringR n 1 16 = b := ⟨_, rfl⟩
  rw [hbb] at HB hr hb ⊢
  have hq : (720720 : Int).tdiv b = 720720 / b := Int.tdiv_eq_ediv_of_nonneg (by decide)
  obtain ⟨q, hqq⟩ : ∃ q, 720720 / b = q := ⟨_, rfl⟩
  rw [hqq] at hq hr ⊢
  have hw2 : IntKind.u64.wrap q = q := by rw [IntKind.wrap_u64]; omega
  have hn : ¬ b = 0 := by omega
  clear hbb hqq
  go_enter Try.func8, Try.ntmps8
  go_wp2_with fail
  with_reducible refine HB.out.mono ?_
  rintro e w1 ⟨rfl, rfl⟩
  go_wp2
  go_ret
  exact ⟨rfl, rfl⟩
theorem ureach_any (n g : Int) (w : World) : Calls Try.prog 10 #[.int .i64 n, .int .i64 g] w fun e w' => e = .returned (.int .u64 (reachR n g)) ∧ w' = w := by
  have HB := Lib.hid (within_any g 1 8 (by decide) (by decide) (by decide) w)
  have HC := Lib.hid (ucore_any n w)
  have hr := reach_range n g
  unfold reachR at hr ⊢
  obtain ⟨b, hbb⟩ : ∃ b, bringR g 1 8 = b := ⟨_, rfl⟩
  obtain ⟨c, hcc⟩ : ∃ c, coreR n = c := ⟨_, rfl⟩
  rw [hbb] at HB hr ⊢
  rw [hcc] at HC hr ⊢
  have hw2 : IntKind.u64.wrap (c * b) = c * b := by
    obtain ⟨q, hq⟩ : ∃ q, c * b = q := ⟨_, rfl⟩
    rw [hq] at hr ⊢
    rw [IntKind.wrap_u64]; omega
  clear hbb hcc hr
  go_enter Try.func10, Try.ntmps10
  go_wp2_with fail
  with_reducible refine HC.out.mono ?_
  rintro e w1 ⟨rfl, rfl⟩
  go_wp2_with fail
  with_reducible refine HB.out.mono ?_
  rintro e w2 ⟨rfl, rfl⟩
  go_wp2
  go_ret
  exact ⟨rfl, rfl⟩
theorem uslack_any (n s c : Int) (w : World) : Calls Try.prog 12 #[.int .i64 n, .int .i64 s, .int .i64 c] w fun e w' => e = .returned (.int .u64 (slackR n s c)) ∧ w' = w := by
  have HB := Lib.hid (within_any s 1 32 (by decide) (by decide) (by decide) w)
  have HC := Lib.hid (within_any c 1 32 (by decide) (by decide) (by decide) w)
  have HL := Lib.hid (ulock_any n w)
  have hr := slack_range n s c
  have h2 := bring_range (n := s) (lo := 1) (hi := 32) (by decide)
  have h3 := bring_range (n := c) (lo := 1) (hi := 32) (by decide)
  unfold slackR at hr ⊢
  obtain ⟨b, hbb⟩ : ∃ b, bringR s 1 32 = b := ⟨_, rfl⟩
  obtain ⟨d, hdd⟩ : ∃ d, bringR c 1 32 = d := ⟨_, rfl⟩
  obtain ⟨l, hll⟩ : ∃ l, lockR n = l := ⟨_, rfl⟩
  rw [hbb] at HB hr h2 ⊢
  rw [hdd] at HC hr h3 ⊢
  rw [hll] at HL hr ⊢
  have hs : IntKind.u64.wrap (b + d) = b + d := by rw [IntKind.wrap_u64]; omega
  obtain ⟨e, he⟩ : ∃ e, b + d = e := ⟨_, rfl⟩
  rw [he] at hs hr ⊢
  have hw2 : IntKind.u64.wrap (l * e) = l * e := by
    obtain ⟨q, hq⟩ : ∃ q, l * e = q := ⟨_, rfl⟩
    rw [hq] at hr ⊢
    rw [IntKind.wrap_u64]; omega
  clear hbb hdd hll hr
  go_enter Try.func12, Try.ntmps12
  go_wp2_with fail
  with_reducible refine HL.out.mono ?_
  rintro r w1 ⟨rfl, rfl⟩
  go_wp2_with fail
  with_reducible refine HB.out.mono ?_
  rintro r w2 ⟨rfl, rfl⟩
  go_wp2_with fail
  with_reducible refine HC.out.mono ?_
  rintro r w3 ⟨rfl, rfl⟩
  go_wp2
  go_ret
  exact ⟨rfl, rfl⟩
theorem clamp_minmax {v f r : Int} (hf : Word f) (hr : Word r) : min (max v f) (satV (f + r)) = clampR v f r := by
  unfold clampR
  have hs : f ≤ satV (f + r) := by
    by_cases h : f + r ≤ 18446744073709551615
    · rw [satV_fit h]; have := hr.1; omega
    · rw [satV_big h]; exact hf.2
  split
  · omega
  · split <;> omega
theorem uclamp_any (v f r : Int) (hf : Word f) (hr : Word r) (w : World) : Calls Try.prog 14 #[.int .u64 v, .int .u64 f, .int .u64 r] w fun e w' => e = .returned (.int .u64 (clampR v f r)) ∧ w' = w := by
  have HA := Lib.hid (add_any f r hf hr w)
  rw [← clamp_minmax hf hr]
  go_enter Try.func14, Try.ntmps14
  go_wp2_with fail
  with_reducible refine HA.out.mono ?_
  rintro e w1 ⟨rfl, rfl⟩
  go_wp2
  go_ret
  exact ⟨rfl, rfl⟩
end Go.Proofs.Ytaohihfhgialnaa
