/-
  Scan, plainly: what holds at each word. No program of its own.
-/
import Derived.Test.YtalnejbpgollkaaDoorTkCutM
import Derived.Test.YtalnejbpgollkaaDoorTkSkip
namespace Go.Proofs.YtalnejbpgollkaaDoor

/-- May the next word, side by side with the last one, be a mark alone? -/
def lastB (ws : List Wd) : Bool := match ws.getLast? with
  | none => false
  | some x => !decide (x.1 = 3)
theorem lastB_snoc (ws : List Wd) (x : Wd) : lastB (ws ++ [x]) = !decide (x.1 = 3) := by simp [lastB]
theorem lastB_nil : lastB [] = false := rfl
theorem one_place (c : By) (t : List By) (p : Nat) : oneR c t p = (placed (oneR c t 0).1 p, (oneR c t 0).2.1, (oneR c t 0).2.2) := by
  unfold oneR placed
  split
  · rfl
  · split
    · rfl
    · rfl

structure ScanSt (L : List By) (k q : Nat) (ws : List Wd) : Prop where
  le : k ≤ L.length
  qk : q ≤ k
  len : ws.length ≤ q
  eq : scanR L 0 false = prepR ws (scanR (L.drop k) k (decide (k = q) && lastB ws))
  head : L.drop k = [] ∨ ∃ c t, L.drop k = c :: t ∧ isBl c = false ∧ ¬ c.toNat = 35

theorem ScanSt.step {L : List By} {q : Nat} {ws : List Wd} (hq : q ≤ L.length) (hl : ws.length ≤ q) (h : scanR L 0 false = prepR ws (scanR (L.drop q) q (lastB ws))) : ScanSt L (q + skipN (L.drop q)) q ws := by
  have hs := skip_le _ (L.drop q) (Nat.le_refl _)
  rw [List.length_drop] at hs
  refine ⟨by omega, by omega, hl, ?_, ?_⟩
  · rw [h, scan_skip _ (L.drop q) q _ (Nat.le_refl _), List.drop_drop]
    congr 2
    rw [Bool.and_comm]
    congr 1
    rw [Bool.eq_iff_iff]
    simp
  · rw [← List.drop_drop]
    exact skip_at _ _ (Nat.le_refl _)
theorem ScanSt.start (L : List By) : ScanSt L (0 + skipN (L.drop 0)) 0 [] := ScanSt.step (by omega) (by simp) (by rw [prepR_nil, List.drop_zero, lastB_nil])
theorem ScanSt.here {L : List By} {k q : Nat} {ws : List Wd} (h : ScanSt L k q ws) (hk : k < L.length) : ∃ c t, L.drop k = c :: t ∧ isBl c = false ∧ ¬ c.toNat = 35 := by
  rcases h.head with h1 | h1
  · have := congrArg List.length h1
    rw [List.length_drop] at this
    simp at this
    omega
  · exact h1
theorem ScanSt.bad {L : List By} {k q : Nat} {ws : List Wd} (h : ScanSt L k q ws) (hk : k < L.length) (h0 : (cutP (L.drop k)).2 = 0) : scanR L 0 false = .error k := by
  obtain ⟨c, t, e, h1, h2⟩ := h.here hk
  rw [h.eq, e]
  rw [e, cut_one] at h0
  rw [scan_bad h1 h2 t k _ (by
    rw [one_place]
    cases ho : (oneR c t 0).2.2 with
    | false => rfl
    | true => rw [ho, if_pos rfl] at h0; simp at h0)]
  rfl
theorem ScanSt.clash {L : List By} {k q : Nat} {ws : List Wd} (h : ScanSt L k q ws) (hk : k < L.length) (hq : k = q) (hc : (lastB ws && !decide ((cutP (L.drop k)).1.1 = 3)) = true) (h0 : ¬ (cutP (L.drop k)).2 = 0) : scanR L 0 false = .error k := by
  obtain ⟨c, t, e, h1, h2⟩ := h.here hk
  rw [h.eq, e]
  rw [e, cut_one] at h0 hc
  have ho : (oneR c t 0).2.2 = true := by
    cases ho : (oneR c t 0).2.2 with
    | false => rw [ho] at h0; simp at h0
    | true => rfl
  rw [ho, if_pos rfl] at hc
  simp at hc
  rw [scan_bad h1 h2 t k _ (by
    rw [one_place]
    simp [placed, hq, hc.1, hc.2])]
  rfl
theorem ScanSt.next {L : List By} {k q : Nat} {ws : List Wd} (h : ScanSt L k q ws) (hk : k < L.length) (h0 : ¬ (cutP (L.drop k)).2 = 0) (hc : (decide (k = q) && (lastB ws && !decide ((cutP (L.drop k)).1.1 = 3))) = false) :
    k + (cutP (L.drop k)).2 ≤ L.length ∧ ScanSt L (k + (cutP (L.drop k)).2 + skipN (L.drop (k + (cutP (L.drop k)).2))) (k + (cutP (L.drop k)).2) (ws ++ [placed (cutP (L.drop k)).1 k]) := by
  obtain ⟨c, t, e, h1, h2⟩ := h.here hk
  have hl := congrArg List.length e
  rw [List.length_drop, List.length_cons] at hl
  have ho : (oneR c t 0).2.2 = true := by
    cases ho : (oneR c t 0).2.2 with
    | false => rw [e, cut_one, ho] at h0; simp at h0
    | true => rfl
  have hcut : cutP (L.drop k) = ((oneR c t 0).1, 1 + (oneR c t 0).2.1) := by rw [e, cut_one, ho, if_pos rfl]
  have h1t := one_le c t 0
  rw [hcut] at hc ⊢
  simp only at hc ⊢
  have hle : k + (1 + (oneR c t 0).2.1) ≤ L.length := by omega
  refine ⟨hle, ScanSt.step hle (by have := h.len; have := h.qk; simp; omega) ?_⟩
  have e2 : L.drop (k + (1 + (oneR c t 0).2.1)) = t.drop (oneR c t 0).2.1 := by
    rw [← List.drop_drop, e, Nat.add_comm 1, List.drop_succ_cons]
  rw [h.eq, e, scan_word h1 h2 t k _ (by
    rw [one_place]
    show (!(oneR c t 0).2.2 || (decide (k = q) && lastB ws && !decide ((oneR c t 0).1.1 = 3))) = false
    rw [ho, Bool.and_assoc]
    exact hc), one_place, prepR_prepR, lastB_snoc, e2]
  simp only [placed]
  rw [show k + 1 + (oneR c t 0).2.1 = k + (1 + (oneR c t 0).2.1) by omega]
theorem ScanSt.done {L : List By} {k q : Nat} {ws : List Wd} (h : ScanSt L k q ws) (hk : ¬ k < L.length) : scanR L 0 false = .ok ws := by
  rw [h.eq, List.drop_eq_nil_of_le (by omega), scan_nil]
  simp [prepR]
end Go.Proofs.YtalnejbpgollkaaDoor
