/-
  The document's Bring, Core, Lock, Reach, Slack, Clamp.
-/
import Derived.Test.YtaohihfhgialnaaRefCalls
import Derived.Test.YtaohihfhgialnaaUnMath
namespace Go.Proofs.Ytaohihfhgialnaa
open Go.RowKit

def coreR (n : Int) : Int := 1099511627776 / bringR n 1 4096
def lockR (n : Int) : Int := 720720 / bringR n 1 16
def reachR (n g : Int) : Int := coreR n * bringR g 1 8
def slackR (n s c : Int) : Int := lockR n * (bringR s 1 32 + bringR c 1 32)
def clampR (v f r : Int) : Int := if v < f then f else if satV (f + r) < v then satV (f + r) else v
theorem core_range (n : Int) : 0 ≤ coreR n ∧ coreR n ≤ 1099511627776 := by
  unfold coreR
  have := bring_range (n := n) (lo := 1) (hi := 4096) (by decide)
  constructor
  · exact Int.ediv_nonneg (by decide) (by omega)
  · exact Int.ediv_le_self _ (by decide)
theorem lock_range (n : Int) : 0 ≤ lockR n ∧ lockR n ≤ 720720 := by
  unfold lockR
  have := bring_range (n := n) (lo := 1) (hi := 16) (by decide)
  constructor
  · exact Int.ediv_nonneg (by decide) (by omega)
  · exact Int.ediv_le_self _ (by decide)
theorem reach_range (n g : Int) : 0 ≤ reachR n g ∧ reachR n g ≤ 8796093022208 := by
  unfold reachR
  have h1 := core_range n
  have h2 := bring_range (n := g) (lo := 1) (hi := 8) (by decide)
  obtain ⟨c, hc⟩ : ∃ c, coreR n = c := ⟨_, rfl⟩
  obtain ⟨b, hb⟩ : ∃ b, bringR g 1 8 = b := ⟨_, rfl⟩
  rw [hc] at h1 ⊢
  rw [hb] at h2 ⊢
  constructor
  · exact Int.mul_nonneg h1.1 (by omega)
  · have := Int.mul_le_mul h1.2 h2.2 (by omega) (by omega)
    omega
theorem slack_range (n s c : Int) : 0 ≤ slackR n s c ∧ slackR n s c ≤ 46126080 := by
  unfold slackR
  have h1 := lock_range n
  have h2 := bring_range (n := s) (lo := 1) (hi := 32) (by decide)
  have h3 := bring_range (n := c) (lo := 1) (hi := 32) (by decide)
  obtain ⟨l, hl⟩ : ∃ l, lockR n = l := ⟨_, rfl⟩
  obtain ⟨b, hb⟩ : ∃ b, bringR s 1 32 + bringR c 1 32 = b := ⟨_, rfl⟩
  have h4 : 0 ≤ b ∧ b ≤ 64 := by omega
  rw [hl] at h1 ⊢
  rw [hb]
  constructor
  · exact Int.mul_nonneg h1.1 h4.1
  · have := Int.mul_le_mul h1.2 h4.2 h4.1 (by omega)
    omega
theorem bring_any (n lo hi : Int) (w : World) : Calls Try.prog 18 #[.int .i64 n, .int .i64 lo, .int .i64 hi] w fun e w' => e = .returned (.int .i64 (bringR n lo hi)) ∧ w' = w := by
  unfold bringR
  by_cases h1 : n < lo
  · rw [if_pos h1]
    go_enter Try.func18, Try.ntmps18
    go_wp2
    go_ret
    exact ⟨rfl, rfl⟩
  · rw [if_neg h1]
    by_cases h2 : hi < n
    · rw [if_pos h2]
      go_enter Try.func18, Try.ntmps18
      go_wp2
      go_ret
      exact ⟨rfl, rfl⟩
    · rw [if_neg h2]
      go_enter Try.func18, Try.ntmps18
      go_wp2
      go_ret
      exact ⟨rfl, rfl⟩
theorem rcore_any (n : Int) (w : World) : Calls Try.prog 7 #[.int .i64 n] w fun e w' => e = .returned (.int .u64 (coreR n)) ∧ w' = w := by
  have HB := Lib.hid (bring_any n 1 4096 w)
  have hr := core_range n
  have hb := bring_range (n := n) (lo := 1) (hi := 4096) (by decide)
  unfold coreR at hr ⊢
  obtain ⟨b, hbb⟩ : ∃ b, bringR n 1 4096 = b := ⟨_, rfl⟩
  rw [hbb] at HB hr hb ⊢
  have hw : IntKind.u64.wrap b = b := by rw [IntKind.wrap_u64]; omega
  have hq : (1099511627776 : Int).tdiv b = 1099511627776 / b := Int.tdiv_eq_ediv_of_nonneg (by decide)
  obtain ⟨q, hqq⟩ : ∃ q, 1099511627776 / b = q := ⟨_, rfl⟩
  rw [hqq] at hq hr ⊢
  have hw2 : IntKind.u64.wrap q = q := by rw [IntKind.wrap_u64]; omega
  have hn : ¬ b = 0 := by omega
  clear hbb hqq
  go_enter Try.func7, Try.ntmps7
  go_wp2_with fail
  with_reducible refine HB.out.mono ?_
  rintro e w1 ⟨rfl, rfl⟩
  go_wp2
  go_ret
  exact ⟨rfl, rfl⟩
theorem rlock_any (n : Int) (w : World) : Calls Try.prog 9 #[.int .i64 n] w fun e w' => e = .returned (.int .u64 (lockR n)) ∧ w' = w := by
  have HB := Lib.hid (bring_any n 1 16 w)
  have hr := lock_range n
  have hb := bring_range (n := n) (lo := 1) (hi := 16) (by decide)
  unfold lockR at hr ⊢
  obtain ⟨b, hbb⟩ : ∃ b, bringR n 1 16 = b := ⟨_, rfl⟩
  rw [hbb] at HB hr hb ⊢
  have hw : IntKind.u64.wrap b = b := by rw [IntKind.wrap_u64]; omega
  have hq : (720720 : Int).tdiv b = 720720 / b := Int.tdiv_eq_ediv_of_nonneg (by decide)
  obtain ⟨q, hqq⟩ : ∃ q, 720720 / b = q := ⟨_, rfl⟩
  rw [hqq] at hq hr ⊢
  have hw2 : IntKind.u64.wrap q = q := by rw [IntKind.wrap_u64]; omega
  have hn : ¬ b = 0 := by omega
  clear hbb hqq
  go_enter Try.func9, Try.ntmps9
  go_wp2_with fail
  with_reducible refine HB.out.mono ?_
  rintro e w1 ⟨rfl, rfl⟩
  go_wp2
  go_ret
  exact ⟨rfl, rfl⟩
theorem rreach_any (n g : Int) (w : World) : Calls Try.prog 11 #[.int .i64 n, .int .i64 g] w fun e w' => e = .returned (.int .u64 (reachR n g)) ∧ w' = w := by
  have HB := Lib.hid (bring_any g 1 8 w)
  have HC := Lib.hid (rcore_any n w)
  have hr := reach_range n g
  have hb := bring_range (n := g) (lo := 1) (hi := 8) (by decide)
  unfold reachR at hr ⊢
  obtain ⟨b, hbb⟩ : ∃ b, bringR g 1 8 = b := ⟨_, rfl⟩
  obtain ⟨c, hcc⟩ : ∃ c, coreR n = c := ⟨_, rfl⟩
  rw [hbb] at HB hr hb ⊢
  rw [hcc] at HC hr ⊢
  have hw : IntKind.u64.wrap b = b := by rw [IntKind.wrap_u64]; omega
  have hw2 : IntKind.u64.wrap (c * b) = c * b := by
    obtain ⟨q, hq⟩ : ∃ q, c * b = q := ⟨_, rfl⟩
    rw [hq] at hr ⊢
    rw [IntKind.wrap_u64]; omega
  clear hbb hcc hr
  go_enter Try.func11, Try.ntmps11
  go_wp2_with fail
  with_reducible refine HC.out.mono ?_
  rintro e w1 ⟨rfl, rfl⟩
  go_wp2_with fail
  with_reducible refine HB.out.mono ?_
  rintro e w2 ⟨rfl, rfl⟩
  go_wp2
  go_ret
  exact ⟨rfl, rfl⟩
theorem rslack_any (n s c : Int) (w : World) : Calls Try.prog 13 #[.int .i64 n, .int .i64 s, .int .i64 c] w fun e w' => e = .returned (.int .u64 (slackR n s c)) ∧ w' = w := by
  have HB := Lib.hid (bring_any s 1 32 w)
  have HC := Lib.hid (bring_any c 1 32 w)
  have HL := Lib.hid (rlock_any n w)
  have hr := slack_range n s c
  have h2 := bring_range (n := s) (lo := 1) (hi := 32) (by decide)
  have h3 := bring_range (n := c) (lo := 1) (hi := 32) (by decide)
  unfold slackR at hr ⊢
  obtain ⟨b, hbb⟩ : ∃ b, bringR s 1 32 = b := ⟨_, rfl⟩
  obtain ⟨d, hdd⟩ : ∃ d, bringR c 1 32 = d := ⟨_, rfl⟩
  obtain ⟨l, hll⟩ : ∃ l, lockR n = l := ⟨_, rfl⟩
  rw [hbb] at HB hr h2 ⊢
  rw [hdd] at HC hr h3 ⊢
  rw [hll] at HL hr ⊢
  have hs : IntKind.i64.wrap (b + d) = b + d := by rw [IntKind.wrap_i64]; omega
  obtain ⟨e, he⟩ : ∃ e, b + d = e := ⟨_, rfl⟩
  rw [he] at hs hr ⊢
  have hw : IntKind.u64.wrap e = e := by rw [IntKind.wrap_u64]; omega
  have hw2 : IntKind.u64.wrap (l * e) = l * e := by
    obtain ⟨q, hq⟩ : ∃ q, l * e = q := ⟨_, rfl⟩
    rw [hq] at hr ⊢
    rw [IntKind.wrap_u64]; omega
  clear hbb hdd hll hr
  go_enter Try.func13, Try.ntmps13
  go_wp2_with fail
  with_reducible refine HL.out.mono ?_
  rintro r w1 ⟨rfl, rfl⟩
  go_wp2_with fail
  with_reducible refine HB.out.mono ?_
  rintro r w2 ⟨rfl, rfl⟩
  go_wp2_with fail
  with_reducible refine HC.out.mono ?_
  rintro r w3 ⟨rfl, rfl⟩
  go_wp2
  go_ret
  exact ⟨rfl, rfl⟩
set_option maxRecDepth 100000 in
theorem rclamp_any (v f r : Int) (hf : Word f) (hr : Word r) (w : World) : Calls Try.prog 15 #[.int .u64 v, .int .u64 f, .int .u64 r] w fun e w' => e = .returned (.int .u64 (clampR v f r)) ∧ Below w.heap.size w w' := by
  have HA := Lib.hid (refadd_any f r hf hr w)
  unfold clampR
  by_cases h1 : v < f
  · rw [if_pos h1]
    go_enter Try.func15, Try.ntmps15
    go_wp2
    go_ret
    exact ⟨rfl, Below.refl _ _⟩
  · rw [if_neg h1]
    obtain ⟨s, hs⟩ : ∃ s, satV (f + r) = s := ⟨_, rfl⟩
    rw [hs] at HA ⊢
    by_cases h2 : s < v
    · rw [if_pos h2]
      go_enter Try.func15, Try.ntmps15
      go_wp2_with fail
      with_reducible refine HA.out.mono ?_
      rintro e w1 ⟨rfl, hb⟩
      have HB := Lib.hid hb
      clear hb
      go_wp2
      go_ret
      exact ⟨rfl, HB.out⟩
    · rw [if_neg h2]
      go_enter Try.func15, Try.ntmps15
      go_wp2_with fail
      with_reducible refine HA.out.mono ?_
      rintro e w1 ⟨rfl, hb⟩
      have HB := Lib.hid hb
      clear hb
      go_wp2
      go_ret
      exact ⟨rfl, HB.out⟩
end Go.Proofs.Ytaohihfhgialnaa
