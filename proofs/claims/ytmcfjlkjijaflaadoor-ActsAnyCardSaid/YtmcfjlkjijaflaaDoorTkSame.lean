/-
  Same, where the words are the same.
-/
import Derived.Test.YtmcfjlkjijaflaaDoorGS
import Derived.Deep.QuietTactic
import Derived.BigQuiet
namespace Go.Proofs.YtmcfjlkjijaflaaDoor
open Go.RowKit

set_option maxRecDepth 100000 in
set_option maxHeartbeats 3200000 in
theorem same_any (ao1 ao2 : Option Addr) (b1 o1 b2 o2 c1 c2 : Nat) (A B : List Wd) (t : Bool) (w : World) (hA : WArg w ao1 b1 o1 A) (hB : WArg w ao2 b2 o2 B) (hl : A.length = B.length) (hm : A.length ≤ 1000000)
    (hs : ∀ i (h1 : i < A.length) (h2 : i < B.length), sameR A[i] B[i] ∧ (t = true → A[i].2.2.2 = B[i].2.2.2)) :
    Calls Tryd.prog 17 #[.slice ao1 A.length c1, .slice ao2 B.length c2, .bool t] w fun e w' => e = .returned (.bool true) ∧ ∃ n, w' = w.drewN n := by
  have HA := Lib.hid hA
  have HB := Lib.hid hB
  have HS := Lib.hid hs
  rw [← hl]
  have HL := Lib.hid hl
  obtain ⟨n, hn⟩ : ∃ n, A.length = n := ⟨_, rfl⟩
  have HN := Lib.hid hn
  rw [hn] at hm ⊢
  clear hA hB hs hl hn
  go_enter Tryd.func17, Tryd.ntmps17
  go_wp2
  go_loopw [7] (fun i' wr => ∃ i d : Nat, i ≤ n ∧ i' = .int .i64 i ∧ wr = w.drewN d) (fun i' _ => n - (intOf i').toNat)
  case atStart => exact ⟨0, 0, Nat.zero_le _, rfl, rfl⟩
  case round =>
    obtain ⟨i, d, hi, rfl, rfl⟩ := hrel
    by_cases hlt : i < n
    · have h1 : i < A.length := by rw [HN.out]; exact hlt
      have h2 : i < B.length := by rw [← HL.out, HN.out]; exact hlt
      obtain ⟨rfl, hb1⟩ := HA.out.at_ (by omega)
      obtain ⟨rfl, hb2⟩ := HB.out.at_ (by omega)
      obtain ⟨x0, x1, x2, x3⟩ := HA.out.cells i h1
      obtain ⟨y0, y1, y2, y3⟩ := HB.out.cells i h2
      obtain ⟨⟨s0, s1, s2⟩, s3⟩ := HS.out i h1 h2
      rw [← s0] at y0
      rw [← s1] at y1
      rw [← s2] at y2
      obtain ⟨k, hk⟩ : ∃ k, A[i].1 = k := ⟨_, rfl⟩
      obtain ⟨tx, htx⟩ : ∃ tx : ByteArray, ⟨A[i].2.1.toArray⟩ = tx := ⟨_, rfl⟩
      obtain ⟨m, hm'⟩ : ∃ m, A[i].2.2.1 = m := ⟨_, rfl⟩
      rw [hk] at x0 y0
      rw [htx] at x1 y1
      rw [hm'] at x2 y2
      obtain ⟨p, hp⟩ : ∃ p, A[i].2.2.2 = p := ⟨_, rfl⟩
      obtain ⟨q, hq⟩ : ∃ q, B[i].2.2.2 = q := ⟨_, rfl⟩
      rw [hp] at x3 s3
      rw [hq] at y3 s3
      clear s0 s1 s2 hk htx hm' hp hq
      cases t with
      | false =>
        clear s3
        go_wp2_with fail
        go_quiet (fail)
        go_wp2
        go_roundw
        case rel => exact ⟨i + 1, _, by omega, by go_num, rfl⟩
        case measure => simp [intOf]; omega
      | true =>
        obtain rfl := s3 rfl
        clear s3
        go_wp2_with fail
        go_quiet (fail)
        go_wp2
        go_roundw
        case rel => exact ⟨i + 1, _, by omega, by go_num, rfl⟩
        case measure => simp [intOf]; omega
    · go_wp2
      go_ret
      exact ⟨rfl, d, rfl⟩
end Go.Proofs.YtmcfjlkjijaflaaDoor
