/-
  ints: the same numbers?
-/
import Derived.Test.YtiffgkmmibhklaaWqReq
namespace Go.Proofs.Ytiffgkmmibhklaa
open Go.RowKit

/-- The number at a place of a row. -/
theorem ints_at {W : World} {N : Nat} {v : Value} {L : List Int} (h : W.ownsRow N 3 1 v L.length (intsW L)) {j : Nat} (hj : j < L.length) : ∃ g cap, v = .slice (some ⟨g, 0, none⟩) L.length cap ∧ W.cell? ⟨g, j, none⟩ = some (.int .i64 (L.getD j 0)) := by
  obtain ⟨g, cap, rfl, _, _⟩ := ownsRow_pos h (by omega)
  refine ⟨g, cap, rfl, ?_⟩
  have := h.cells (g := g) rfl j (.int .i64 (L.getD j 0)) (by simp [intsW, hj, List.getD_eq_getElem?_getD])
  rcases Nat.eq_zero_or_pos j with rfl | hp
  · simpa [Addr.add] using this
  · have h0 : ¬ j = 0 := by omega
    simpa [Addr.add, h0] using this
theorem eq_of_getD {A B : List Int} (hl : A.length = B.length) (h : ∀ j, j < A.length → A.getD j 0 = B.getD j 0) : A = B := by
  refine List.ext_getElem hl fun j h1 h2 => ?_
  have := h j h1
  simpa [List.getD_eq_getElem?_getD, h1, h2] using this

set_option maxRecDepth 100000 in
set_option maxHeartbeats 800000 in
theorem ints_any {w : World} {n1 n2 : Nat} {va vb : Value} {A B : List Int} (ha : w.ownsRow n1 3 1 va A.length (intsW A)) (hb : w.ownsRow n2 3 1 vb B.length (intsW B)) :
    Calls Try.prog 10 #[va, vb] w fun r w' => r = .returned (.bool (decide (A = B))) ∧ ∃ n, w' = w.drewN n := by
  obtain ⟨aa, ca, rfl, ha1, ha2⟩ := ownsRow_shape ha
  obtain ⟨ab, cb, rfl, hb1, hb2⟩ := ownsRow_shape hb
  unfold maxLen at ha2 hb2
  have HA := Lib.hid (fun j (hj : j < A.length) => ints_at ha hj)
  have HB := Lib.hid (fun j (hj : j < B.length) => ints_at hb hj)
  clear ha hb
  by_cases hl : A.length = B.length
  · have hli : (A.length : Int) = (B.length : Int) := by omega
    have q0 : ((A.length : Int) == (B.length : Int)) = true := by rw [hli]; simp
    have q1 : ((A.length : Int) != (B.length : Int)) = false := by rw [hli]; simp
    obtain ⟨m, hm⟩ : ∃ m, A.length = m := ⟨_, rfl⟩
    have hmb : B.length = m := by omega
    have HM := Lib.hid hm
    have HMB := Lib.hid hmb
    rw [hm] at HA q0 q1 ha1 ⊢
    rw [hmb] at HB q0 q1 hb1 ⊢
    clear hl hli hm hmb
    go_enter Try.func10, Try.ntmps10
    go_wp2
    go_loopw [13] (fun i wr => ∃ k : Nat, k ≤ m ∧ i = .int .i64 k ∧ Hid (∃ n, wr = w.drewN n) ∧ Hid (∀ j, j < k → A.getD j 0 = B.getD j 0)) (fun i _ => m - (intOf i).toNat)
    case atStart => exact ⟨0, Nat.zero_le _, rfl, Lib.hid ⟨0, rfl⟩, Lib.hid fun j hj => by omega⟩
    case round =>
      obtain ⟨k, hk, rfl, HW, HP⟩ := hrel
      by_cases hlt : k < m
      · obtain ⟨g, cap, hv, hc⟩ := HA.out k hlt
        obtain ⟨g2, cap2, hv2, hc2⟩ := HB.out k hlt
        simp only [Value.slice.injEq, true_and] at hv hv2
        obtain ⟨rfl, rfl⟩ := hv
        obtain ⟨rfl, rfl⟩ := hv2
        obtain ⟨x, hx⟩ : ∃ x, A.getD k 0 = x := ⟨_, rfl⟩
        obtain ⟨y, hy⟩ : ∃ y, B.getD k 0 = y := ⟨_, rfl⟩
        rw [hx] at hc
        rw [hy] at hc2
        have hcw : wr.cell? ⟨g, k, none⟩ = some (.int .i64 x) := by obtain ⟨n, rfl⟩ := HW.out; exact hc
        have hcw2 : wr.cell? ⟨g2, k, none⟩ = some (.int .i64 y) := by obtain ⟨n, rfl⟩ := HW.out; exact hc2
        have HN : Hid (∀ q, ∃ n, wr.drewN q = w.drewN n) := by
          obtain ⟨n, rfl⟩ := HW.out
          exact fun q => ⟨n + q, by simp⟩
        have i0 : (0 : Int) ≤ k := by omega
        have i1 : (k : Int) < m := by omega
        have HX := Lib.hid hx
        have HY := Lib.hid hy
        clear hc hc2 hx hy
        by_cases hp : x = y
        · subst hp
          have e0 : (x == x) = true := by simp
          have e1 : (x != x) = false := by simp
          go_wp2
          refine wp_region_quiet_lit (by kernel_rfl) (by kernel_rfl) ?_
          try simp only [List.append_eq, List.cons_append, List.nil_append]
          repeat (go_big_quiet_step (fail))
          refine wpQuiet_nil ?_
          rintro _ ⟨nq, rfl⟩
          go_wp2
          go_roundw
          case rel =>
            refine ⟨k + 1, by omega, by go_num, HN.out _, Lib.hid fun j hj => ?_⟩
            by_cases e : j = k
            · subst e
              rw [HX.out, HY.out]
            · exact HP.out j (by omega)
          case measure => simp [intOf]; omega
        · have e0 : (x == y) = false := by simpa using hp
          have e1 : (x != y) = true := by simpa using hp
          go_wp2
          refine wp_region_quiet_lit (by kernel_rfl) (by kernel_rfl) ?_
          try simp only [List.append_eq, List.cons_append, List.nil_append]
          repeat (go_big_quiet_step (fail))
          refine wpQuiet_nil ?_
          rintro _ ⟨nq, rfl⟩
          go_wp2
          go_ret
          have : ¬ A = B := fun e => by
            subst e
            exact hp (HX.out.symm.trans HY.out)
          rw [decide_eq_false this]
          exact ⟨rfl, HN.out _⟩
      · obtain rfl : k = m := by omega
        go_wp2
        go_ret
        have : A = B := eq_of_getD (HM.out.trans HMB.out.symm) fun j hj => HP.out j (by have := HM.out; omega)
        rw [decide_eq_true this]
        exact ⟨rfl, HW.out⟩
  · have : ¬ A = B := fun e => hl (by rw [e])
    rw [decide_eq_false this]
    have hl' : ¬ (A.length : Int) = (B.length : Int) := by omega
    have q0 : ((A.length : Int) == (B.length : Int)) = false := by simpa using hl'
    have q1 : ((A.length : Int) != (B.length : Int)) = true := by simpa using hl'
    clear hl
    go_enter Try.func10, Try.ntmps10
    go_wp2
    go_ret
    exact ⟨rfl, 0, rfl⟩
end Go.Proofs.Ytiffgkmmibhklaa
