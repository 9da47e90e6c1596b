/-
  The document's Same, where the acts are the same; two acts, held against each other.
-/
import Derived.Test.YtmcfjlkjijaflaaDoorGXA
import Derived.Test.YtmcfjlkjijaflaaDoorRdTake
import Derived.Deep.QuietTactic
import Derived.BigQuiet
namespace Go.Proofs.YtmcfjlkjijaflaaDoor
open Go.RowKit

theorem eql_act_self (k x0 x1 x2 x3 : Int) (W : World) : (Op.equalIn 10000 69 (.agg #[.int .i64 k, .int .i64 x0, .int .i64 x1, .int .i64 x2, .int .i64 x3]) (.agg #[.int .i64 k, .int .i64 x0, .int .i64 x1, .int .i64 x2, .int .i64 x3])).run Tryd.prog W = .ok true W := by
  have h0 : (k == k) = true := by simp
  have h1 : (x0 == x0) = true := by simp
  have h2 : (x1 == x1) = true := by simp
  have h3 : (x2 == x2) = true := by simp
  have h4 : (x3 == x3) = true := by simp
  go_simp
theorem neq_act_self (k x0 x1 x2 x3 : Int) (W : World) : (binOp .neq 69 (.agg #[.int .i64 k, .int .i64 x0, .int .i64 x1, .int .i64 x2, .int .i64 x3]) (.agg #[.int .i64 k, .int .i64 x0, .int .i64 x1, .int .i64 x2, .int .i64 x3])).run Tryd.prog W = .ok (.bool false) W := by
  rw [run_neq_struct, eql_act_self]
  rfl
theorem eq_act_self (k x0 x1 x2 x3 : Int) (W : World) : (binOp .eql 69 (.agg #[.int .i64 k, .int .i64 x0, .int .i64 x1, .int .i64 x2, .int .i64 x3]) (.agg #[.int .i64 k, .int .i64 x0, .int .i64 x1, .int .i64 x2, .int .i64 x3])).run Tryd.prog W = .ok (.bool true) W := by
  rw [run_eql_struct, eql_act_self]
  rfl
set_option maxRecDepth 100000 in
set_option maxHeartbeats 3200000 in
theorem rasame_any (ao1 ao2 : Option Addr) (b1 o1 b2 o2 c1 c2 : Nat) (L : List Ac) (w : World) (hA : AArg w ao1 b1 o1 L) (hB : AArg w ao2 b2 o2 L) (hm : L.length ≤ 1000000) :
    Calls Tryd.prog 30 #[.slice ao1 L.length c1, .slice ao2 L.length c2] w fun e w' => e = .returned (.bool true) ∧ ∃ n, w' = w.drewN n := by
  have HA := Lib.hid hA
  have HB := Lib.hid hB
  obtain ⟨n, hn⟩ : ∃ n, L.length = n := ⟨_, rfl⟩
  have HN := Lib.hid hn
  rw [hn] at hm ⊢
  clear hA hB hn
  go_enter Tryd.func30, Tryd.ntmps30
  go_wp2
  go_loopw [5] (fun i' wr => ∃ i d : Nat, i ≤ n ∧ i' = .int .i64 i ∧ wr = w.drewN d) (fun i' _ => n - (intOf i').toNat)
  case atStart => exact ⟨0, 0, Nat.zero_le _, rfl, rfl⟩
  case round =>
    obtain ⟨i, d, hi, rfl, rfl⟩ := hrel
    by_cases hlt : i < n
    · have h1 : i < L.length := by rw [HN.out]; exact hlt
      obtain ⟨rfl, hb1⟩ := HA.out.at_ (by omega)
      obtain ⟨rfl, hb2⟩ := HB.out.at_ (by omega)
      obtain ⟨x0, x1, x2, x3, x4⟩ := HA.out.cells i h1
      obtain ⟨y0, y1, y2, y3, y4⟩ := HB.out.cells i h1
      obtain ⟨⟨k, z0, z1, z2, z3⟩, hz⟩ : ∃ x, L[i] = x := ⟨_, rfl⟩
      simp only [hz] at x0 x1 x2 x3 x4 y0 y1 y2 y3 y4
      have hq := fun W => neq_act_self k z0 z1 z2 z3 W
      clear hz
      go_wp2_with fail
      go_quiet (fail)
      go_wp2
      go_roundw
      case rel => exact ⟨i + 1, _, by omega, by go_num, rfl⟩
      case measure => simp [intOf]; omega
    · go_wp2
      go_ret
      exact ⟨rfl, d, rfl⟩
end Go.Proofs.YtmcfjlkjijaflaaDoor
