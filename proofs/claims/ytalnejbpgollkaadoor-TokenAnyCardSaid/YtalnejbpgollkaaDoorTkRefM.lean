/-
  The document's Scan, plainly: what holds at each place. No program of its own.
-/
import Derived.Test.YtalnejbpgollkaaDoorTkScanM
namespace Go.Proofs.YtalnejbpgollkaaDoor

structure RefSt (L : List By) (k : Nat) (q : Int) (ws : List Wd) : Prop where
  le : k ≤ L.length
  qk : q ≤ k
  has : 0 ≤ q → ws ≠ []
  len : ws.length ≤ k
  eq : scanR L 0 false = prepR ws (scanR (L.drop k) k (decide (q = (k : Int)) && lastB ws))
theorem RefSt.start (L : List By) : RefSt L 0 (-1) [] := ⟨Nat.zero_le _, by omega, fun h => by omega, Nat.le_refl _, by rw [prepR_nil, List.drop_zero, lastB_nil, Bool.and_false]⟩
theorem drop_more {L : List By} {k : Nat} {c : By} {t : List By} (e : L.drop k = c :: t) (m : Nat) : L.drop (k + 1 + m) = t.drop m := by
  rw [Nat.add_assoc, ← List.drop_drop, e, Nat.add_comm 1 m, List.drop_succ_cons]
theorem drop_lt {L : List By} {k : Nat} {c : By} {t : List By} (e : L.drop k = c :: t) : k + 1 + t.length = L.length := by
  have := congrArg List.length e
  rw [List.length_drop, List.length_cons] at this
  omega
theorem RefSt.blank {L : List By} {k : Nat} {q : Int} {ws : List Wd} (h : RefSt L k q ws) {c : By} {t : List By} (e : L.drop k = c :: t) (hb : isBl c = true) : RefSt L (k + 1) q ws := by
  have hl := drop_lt e
  refine ⟨by omega, by have := h.qk; omega, h.has, by have := h.len; omega, ?_⟩
  rw [h.eq, e, scan_blank hb, show L.drop (k + 1) = t by have := drop_more e 0; simpa using this]
  have : decide (q = ((k + 1 : Nat) : Int)) = false := by
    have := h.qk
    simp
    omega
  rw [this, Bool.false_and]
theorem RefSt.remark {L : List By} {k : Nat} {q : Int} {ws : List Wd} (h : RefSt L k q ws) {c : By} {t : List By} (e : L.drop k = c :: t) (hb : isBl c = false) (h35 : c.toNat = 35) {T : Nat} (hT : T = k + 1 + (t.takeWhile not10).length) : RefSt L T q ws := by
  subst hT
  have hl := drop_lt e
  have hle := (List.takeWhile_sublist (l := t) not10).length_le
  refine ⟨by omega, by have := h.qk; omega, h.has, by have := h.len; omega, ?_⟩
  rw [h.eq, e, scan_remark hb h35, drop_more e, drop_take_len]
  have : decide (q = ((k + 1 + (t.takeWhile not10).length : Nat) : Int)) = false := by
    have := h.qk
    simp
    omega
  rw [this, Bool.false_and]
theorem RefSt.bad {L : List By} {k : Nat} {q : Int} {ws : List Wd} (h : RefSt L k q ws) {c : By} {t : List By} (e : L.drop k = c :: t) (hb : isBl c = false) (h35 : ¬ c.toNat = 35) {x : Wd} {m : Nat} {ok : Bool} (ho : oneR c t k = (x, m, ok)) (hc : (!ok || (decide (q = (k : Int)) && (!decide (x.1 = 3) && lastB ws))) = true) : scanR L 0 false = .error k := by
  rw [h.eq, e, scan_bad hb h35 t k _ (by
    rw [ho]
    simp only
    rw [← hc]
    cases ok <;> cases decide (q = (k : Int)) <;> cases decide (x.1 = 3) <;> cases lastB ws <;> rfl)]
  rfl
theorem RefSt.next {L : List By} {k : Nat} {q : Int} {ws : List Wd} (h : RefSt L k q ws) {c : By} {t : List By} (e : L.drop k = c :: t) (hb : isBl c = false) (h35 : ¬ c.toNat = 35) {x : Wd} {m : Nat} (ho : oneR c t k = (x, m, true)) (hc : (decide (q = (k : Int)) && (!decide (x.1 = 3) && lastB ws)) = false) :
    k + 1 + m ≤ L.length ∧ RefSt L (k + 1 + m) ((k + 1 + m : Nat) : Int) (ws ++ [x]) := by
  have hl := drop_lt e
  have hm := one_le c t k
  rw [ho] at hm
  simp only at hm
  refine ⟨by omega, by omega, by omega, fun _ => by simp, by have := h.len; simp; omega, ?_⟩
  rw [h.eq, e, scan_word hb h35 t k _ (by
    rw [ho]
    simp only
    rw [← hc]
    cases decide (q = (k : Int)) <;> cases decide (x.1 = 3) <;> cases lastB ws <;> rfl), ho, prepR_prepR, lastB_snoc, drop_more e]
  simp
theorem RefSt.done {L : List By} {k : Nat} {q : Int} {ws : List Wd} (h : RefSt L k q ws) (hk : ¬ k < L.length) : scanR L 0 false = .ok ws := by
  rw [h.eq, List.drop_eq_nil_of_le (by omega), scan_nil]
  simp [prepR]
end Go.Proofs.YtalnejbpgollkaaDoor
