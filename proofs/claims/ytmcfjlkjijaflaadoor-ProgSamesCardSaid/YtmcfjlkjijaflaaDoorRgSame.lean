/-
  The document's Same of programs.
-/
import Derived.Test.YtmcfjlkjijaflaaDoorGR
import Derived.Deep.QuietTactic
import Derived.BigQuiet
namespace Go.Proofs.YtmcfjlkjijaflaaDoor
open Go.RowKit

theorem neq_ops (a1 b1 c1 a2 b2 c2 : Int) : ((a1, b1, c1) : Opn) ≠ (a2, b2, c2) → ¬ (a1 = a2 ∧ b1 = b2 ∧ c1 = c2) := by
  rintro h ⟨rfl, rfl, rfl⟩
  exact h rfl
theorem ops_eq {A B : List Opn} (hl : A.length = B.length) (h : ∀ i (h1 : i < A.length) (h2 : i < B.length), A[i] = B[i]) : A = B := List.ext_getElem hl h
/-- Are they the same? -/
def eqR (p q : Prg) : Bool := decide (p = q)
set_option maxRecDepth 100000 in
set_option maxHeartbeats 3200000 in
theorem rsame_any (f g : Bool) (ao1 ao2 : Option Addr) (b1 o1 b2 o2 c1 c2 : Nat) (A B : List Opn) (w : World) (hA : OArg w ao1 b1 o1 A) (hB : OArg w ao2 b2 o2 B) (hm : A.length ≤ 100000) (hm2 : B.length ≤ 100000) :
    Calls Tryd.prog 19 #[prgV f ao1 A.length c1, prgV g ao2 B.length c2] w fun e w' => e = .returned (.bool (eqR (f, A) (g, B))) ∧ Below w.heap.size w w' := by
  have HA := Lib.hid hA
  have HB := Lib.hid hB
  obtain ⟨n, hn⟩ : ∃ n, A.length = n := ⟨_, rfl⟩
  obtain ⟨m, hm'⟩ : ∃ m, B.length = m := ⟨_, rfl⟩
  have HN := Lib.hid hn
  have HM := Lib.hid hm'
  rw [hn] at hm ⊢
  rw [hm'] at hm2 ⊢
  clear hA hB hn hm'
  by_cases hfg : f = g
  · subst hfg
    by_cases hnm : n = m
    · subst hnm
      obtain ⟨r, hr⟩ : ∃ r, eqR (f, A) (f, B) = r := ⟨_, rfl⟩
      have HR := Lib.hid hr
      rw [hr]
      clear hr
      have hff : (f != f) = false := by simp
      go_enter Tryd.func19, Tryd.ntmps19
      go_wp2
      go_loopw [5] (fun i' wr => ∃ i : Nat, i ≤ n ∧ i' = .int .i64 i ∧ Hid (Below w.heap.size w wr) ∧ wr.cell? ⟨w.heap.size, 1, none⟩ = some (.slice ao1 n c1) ∧ wr.cell? ⟨w.heap.size + 1, 1, none⟩ = some (.slice ao2 n c2) ∧ Hid (∀ j (h1 : j < A.length) (h2 : j < B.length), j < i → A[j] = B[j])) (fun i' _ => n - (intOf i').toNat)
      case atStart => exact ⟨0, Nat.zero_le _, rfl, ((Below.refl _ w).alloc (Nat.le_refl _) _).alloc (by simp) _, by simp, by simp, fun j _ _ hj => absurd hj (Nat.not_lt_zero _)⟩
      case round =>
        obtain ⟨i, hi, rfl, HW, d1, d2, HO⟩ := hrel
        by_cases hlt : i < n
        · have h1 : i < A.length := by rw [HN.out]; exact hlt
          have h2 : i < B.length := by rw [HM.out]; exact hlt
          have hA := HA.out.below HW.out
          have hB := HB.out.below HW.out
          obtain ⟨rfl, hb1⟩ := hA.at_ (by omega)
          obtain ⟨rfl, hb2⟩ := hB.at_ (by omega)
          obtain ⟨x0, x1, x2⟩ := hA.cells i h1
          obtain ⟨y0, y1, y2⟩ := hB.cells i h2
          by_cases heq : A[i] = B[i]
          · have HO2 : Hid (∀ j (h1 : j < A.length) (h2 : j < B.length), j < i + 1 → A[j] = B[j]) := Lib.hid (fun j k1 k2 hji => by
              rcases Nat.lt_or_ge j i with h | h
              · exact HO.out j k1 k2 h
              · have : j = i := by omega
                subst this
                exact heq)
            rw [← heq] at y0 y1 y2
            obtain ⟨⟨k, a, c⟩, hx⟩ : ∃ x, A[i] = x := ⟨_, rfl⟩
            rw [hx] at x0 x1 x2 y0 y1 y2
            simp only at x0 x1 x2 y0 y1 y2
            clear hx heq hA hB
            go_wp2_with fail
            go_quiet (fail)
            go_wp2
            go_roundw
            case rel => exact ⟨i + 1, by omega, by go_num, Lib.hid (below_drewN HW.out _), d1, d2, HO2⟩
            case measure => simp [intOf]; omega
          · have HE : Hid (r = false) := Lib.hid (HR.out.symm.trans (by
              unfold eqR
              simp only [decide_eq_false_iff_not, Prod.mk.injEq, true_and]
              intro h
              apply heq
              have : ∀ (C : List Opn) (h : A = C) (h2 : i < C.length), A[i] = C[i] := by rintro C rfl h2; rfl
              exact this B h h2))
            obtain ⟨⟨k, a, c⟩, hx⟩ : ∃ x, A[i] = x := ⟨_, rfl⟩
            obtain ⟨⟨k2, a2, c2'⟩, hy⟩ : ∃ x, B[i] = x := ⟨_, rfl⟩
            rw [hx] at x0 x1 x2 heq
            rw [hy] at y0 y1 y2 heq
            simp only at x0 x1 x2 y0 y1 y2
            have hne := neq_ops _ _ _ _ _ _ heq
            clear hx hy heq hA hB
            have hw : k ≠ k2 ∨ (k = k2 ∧ a ≠ a2) ∨ (k = k2 ∧ a = a2 ∧ c ≠ c2') := by omega
            clear hne
            rcases hw with hw | ⟨rfl, hw⟩ | ⟨rfl, rfl, hw⟩
            · have hwb : (k == k2) = false := by simpa using hw
              go_wp2_with fail
              go_quiet (fail)
              go_wp2
              go_ret
              exact ⟨congrArg (fun x => Ending.returned (.bool x)) HE.out.symm, below_drewN HW.out _⟩
            · have hwb : (a == a2) = false := by simpa using hw
              go_wp2_with fail
              go_quiet (fail)
              go_wp2
              go_ret
              exact ⟨congrArg (fun x => Ending.returned (.bool x)) HE.out.symm, below_drewN HW.out _⟩
            · have hwb : (c == c2') = false := by simpa using hw
              go_wp2_with fail
              go_quiet (fail)
              go_wp2
              go_ret
              exact ⟨congrArg (fun x => Ending.returned (.bool x)) HE.out.symm, below_drewN HW.out _⟩
        · have HE : Hid (r = true) := Lib.hid (HR.out.symm.trans (by
            unfold eqR
            simp only [decide_eq_true_eq, Prod.mk.injEq, true_and]
            exact ops_eq (HN.out.trans HM.out.symm) (fun j k1 k2 => HO.out j k1 k2 (by have := HN.out; omega))))
          go_wp2
          go_ret
          exact ⟨congrArg (fun x => Ending.returned (.bool x)) HE.out.symm, HW.out⟩
    · have e : eqR (f, A) (f, B) = false := by
        unfold eqR
        simp only [decide_eq_false_iff_not, Prod.mk.injEq, true_and]
        rintro rfl
        exact hnm (HN.out.symm.trans HM.out)
      rw [e]
      have hnb : ((n : Int) == m) = false := by simp; omega
      have hff : (f != f) = false := by simp
      go_enter Tryd.func19, Tryd.ntmps19
      go_wp2
      go_ret
      refine ⟨rfl, ?_⟩
      exact ((Below.refl _ w).alloc (Nat.le_refl _) _).alloc (by simp) _
  · have e : eqR (f, A) (g, B) = false := by
      unfold eqR
      simp only [decide_eq_false_iff_not, Prod.mk.injEq]
      exact fun h => hfg h.1
    rw [e]
    have hfg2 : (f != g) = true := by simpa using hfg
    go_enter Tryd.func19, Tryd.ntmps19
    go_wp2
    go_ret
    refine ⟨rfl, ?_⟩
    exact ((Below.refl _ w).alloc (Nat.le_refl _) _).alloc (by simp) _
end Go.Proofs.YtmcfjlkjijaflaaDoor
