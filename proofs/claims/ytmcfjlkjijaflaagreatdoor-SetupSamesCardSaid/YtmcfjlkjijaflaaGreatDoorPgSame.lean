/-
  The program's Same; slices.Equal of ops.
-/
import Derived.Test.YtmcfjlkjijaflaaGreatDoorGAF
import Derived.Laws.StructEq
import Derived.Deep.QuietTactic
import Derived.BigQuiet
namespace Go.Proofs.YtmcfjlkjijaflaaGreatDoor
open Go.RowKit

theorem neq_opv (x y : Opn) (W : World) : (binOp .neq 109 (.agg #[.int .i64 x.1, .int .i64 x.2.1, .int .i64 x.2.2]) (.agg #[.int .i64 y.1, .int .i64 y.2.1, .int .i64 y.2.2])).run Tryz.prog W = .ok (.bool (!decide (x = y))) W := by
  obtain ⟨a, b, c⟩ := x
  obtain ⟨a', b', c'⟩ := y
  simp only
  by_cases h1 : a = a'
  · subst h1
    by_cases h2 : b = b'
    · subst h2
      by_cases h3 : c = c'
      · subst h3
        rw [decide_eq_true rfl]
        go_simp
      · have e : decide ((a, b, c) = ((a, b, c') : Opn)) = false := by simp [h3]
        rw [e]
        have q : (c == c') = false := by simpa using h3
        go_simp
    · have e : decide ((a, b, c) = ((a, b', c') : Opn)) = false := by simp [h2]
      rw [e]
      have q : (b == b') = false := by simpa using h2
      go_simp
  · have e : decide ((a, b, c) = ((a', b', c') : Opn)) = false := by simp [h1]
    rw [e]
    have q : (a == a') = false := by simpa using h1
    go_simp
set_option maxRecDepth 100000 in
set_option maxHeartbeats 3200000 in
theorem equal_any (ao1 ao2 : Option Addr) (b1 o1 b2 o2 c1 c2 : Nat) (A B : List Opn) (w : World) (hA : OArg w ao1 b1 o1 A) (hB : OArg w ao2 b2 o2 B) (hm : A.length ≤ 100000) (hm2 : B.length ≤ 100000) :
    Calls Tryz.prog 82 #[.slice ao1 A.length c1, .slice ao2 B.length c2] w fun e w' => e = .returned (.bool (decide (A = B))) ∧ Below w.heap.size w w' := by
  have HA := Lib.hid hA
  have HB := Lib.hid hB
  obtain ⟨n, hn⟩ : ∃ n, A.length = n := ⟨_, rfl⟩
  obtain ⟨m, hm'⟩ : ∃ m, B.length = m := ⟨_, rfl⟩
  have HN := Lib.hid hn
  have HM := Lib.hid hm'
  rw [hn] at hm ⊢
  rw [hm'] at hm2 ⊢
  clear hA hB hn hm'
  by_cases hnm : n = m
  · subst hnm
    obtain ⟨r, hr⟩ : ∃ r, decide (A = B) = r := ⟨_, rfl⟩
    have HR := Lib.hid hr
    rw [hr]
    clear hr
    go_enter Tryz.func82, Tryz.ntmps82
    go_wp2
    go_loopw [13] (fun i' wr => ∃ i : Nat, i ≤ n ∧ i' = .int .i64 i ∧ Hid (Below w.heap.size w wr) ∧ Hid (∀ j (h1 : j < A.length) (h2 : j < B.length), j < i → A[j] = B[j])) (fun i' _ => n - (intOf i').toNat)
    case atStart => exact ⟨0, Nat.zero_le _, rfl, Below.refl _ w, fun j _ _ hj => absurd hj (Nat.not_lt_zero _)⟩
    case round =>
      obtain ⟨i, hi, rfl, HW, HO⟩ := hrel
      by_cases hlt : i < n
      · have h1 : i < A.length := by rw [HN.out]; exact hlt
        have h2 : i < B.length := by rw [HM.out]; exact hlt
        have hA := HA.out.below HW.out
        have hB := HB.out.below HW.out
        obtain ⟨rfl, hb1⟩ := hA.at_ (by omega)
        obtain ⟨rfl, hb2⟩ := hB.at_ (by omega)
        obtain ⟨x0, x1, x2⟩ := hA.cells i h1
        obtain ⟨y0, y1, y2⟩ := hB.cells i h2
        have hne := fun W => neq_opv A[i] B[i] W
        obtain ⟨q, hq⟩ : ∃ q, decide (A[i] = B[i]) = q := ⟨_, rfl⟩
        rw [hq] at hne
        have HQ := Lib.hid hq
        obtain ⟨⟨k, a, c⟩, hx⟩ : ∃ x, A[i] = x := ⟨_, rfl⟩
        obtain ⟨⟨k2, a2, c2'⟩, hy⟩ : ∃ x, B[i] = x := ⟨_, rfl⟩
        rw [hx] at x0 x1 x2 hne
        rw [hy] at y0 y1 y2 hne
        simp only at x0 x1 x2 y0 y1 y2 hne
        clear hx hy hA hB hq
        cases q with
        | true =>
          have HO2 : Hid (∀ j (h1 : j < A.length) (h2 : j < B.length), j < i + 1 → A[j] = B[j]) := Lib.hid (fun j k1 k2 hji => by
            rcases Nat.lt_or_ge j i with h | h
            · exact HO.out j k1 k2 h
            · have : j = i := by omega
              subst this
              exact of_decide_eq_true HQ.out)
          go_wp2_with fail
          go_quiet (fail)
          go_wp2
          go_roundw
          case rel => exact ⟨i + 1, by omega, by go_num, Lib.hid (below_drewN HW.out _), HO2⟩
          case measure => simp [intOf]; omega
        | false =>
          have HE : Hid (r = false) := Lib.hid (HR.out.symm.trans (by
            simp only [decide_eq_false_iff_not]
            intro h
            have : ∀ (C : List Opn) (h : A = C) (h2 : i < C.length), A[i] = C[i] := by rintro C rfl h2; rfl
              
            exact of_decide_eq_false HQ.out (this B h h2)))
          go_wp2_with fail
          go_quiet (fail)
          go_wp2
          go_ret
          exact ⟨congrArg (fun x => Ending.returned (.bool x)) HE.out.symm, below_drewN HW.out _⟩
      · have HE : Hid (r = true) := Lib.hid (HR.out.symm.trans (by
          simp only [decide_eq_true_eq]
          exact ops_eq (HN.out.trans HM.out.symm) (fun j k1 k2 => HO.out j k1 k2 (by have := HN.out; omega))))
        go_wp2
        go_ret
        exact ⟨congrArg (fun x => Ending.returned (.bool x)) HE.out.symm, HW.out⟩
  · have e : decide (A = B) = false := by
      simp only [decide_eq_false_iff_not]
      rintro rfl
      exact hnm (HN.out.symm.trans HM.out)
    rw [e]
    have hnb : ((n : Int) == m) = false := by simp; omega
    go_enter Tryz.func82, Tryz.ntmps82
    go_wp2
    go_ret
    exact ⟨rfl, Below.refl _ w⟩
set_option maxRecDepth 100000 in
set_option maxHeartbeats 1600000 in
theorem psame_any (f g : Bool) (ao1 ao2 : Option Addr) (b1 o1 b2 o2 c1 c2 : Nat) (A B : List Opn) (w : World) (hA : OArg w ao1 b1 o1 A) (hB : OArg w ao2 b2 o2 B) (hm : A.length ≤ 100000) (hm2 : B.length ≤ 100000) :
    Calls Tryz.prog 39 #[prgV f ao1 A.length c1, prgV g ao2 B.length c2] w fun e w' => e = .returned (.bool (eqR (f, A) (g, B))) ∧ Below w.heap.size w w' := by
  have hb0 : Below w.heap.size w ((w.alloc (.cells #[.bool f, .slice ao1 A.length c1] 51)).alloc (.cells #[.bool g, .slice ao2 B.length c2] 51)) := ((Below.refl _ w).alloc (Nat.le_refl _) _).alloc (by simp) _
  have he := equal_any ao1 ao2 b1 o1 b2 o2 c1 c2 A B _ (hA.below hb0) (hB.below hb0) hm hm2
  have HB0 := Lib.hid hb0
  have e : eqR (f, A) (g, B) = ((f == g) && decide (A = B)) := by
    unfold eqR
    rw [Bool.eq_iff_iff]
    simp
  rw [e]
  obtain ⟨r, hr⟩ : ∃ r, decide (A = B) = r := ⟨_, rfl⟩
  rw [hr] at he ⊢
  obtain ⟨n, hn⟩ : ∃ n, A.length = n := ⟨_, rfl⟩
  obtain ⟨m, hm'⟩ : ∃ m, B.length = m := ⟨_, rfl⟩
  rw [hn, hm'] at he HB0 ⊢
  have HE := Lib.hid he
  clear he hA hB e hr hn hm' hm hm2 hb0
  cases hfg : (f == g) with
  | true =>
    go_enter Tryz.func39, Tryz.ntmps39
    go_wp2_with fail
    with_reducible refine HE.out.mono ?_
    rintro e w1 ⟨rfl, hb1⟩
    have HB1 := Lib.hid (HB0.out.trans (hb1.mono HB0.out.size))
    clear hb1
    go_wp2
    go_ret
    exact ⟨by simp, HB1.out⟩
  | false =>
    go_enter Tryz.func39, Tryz.ntmps39
    go_wp2
    go_ret
    exact ⟨rfl, HB0.out⟩
end Go.Proofs.YtmcfjlkjijaflaaGreatDoor
