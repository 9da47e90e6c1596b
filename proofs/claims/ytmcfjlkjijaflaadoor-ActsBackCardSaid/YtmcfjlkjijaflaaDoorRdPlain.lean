/-
  The program's reader, plainly: what op and ops come to; op of any words.
-/
import Derived.Test.YtmcfjlkjijaflaaDoorRdOp
namespace Go.Proofs.YtmcfjlkjijaflaaDoor
open Go.RowKit

theorem is_next {L : List Wd} (hL : Clean L) {c : Nat} {k : Int} {t : List By} (hk : k = 1 ∨ k = 3) : isR L c k t = decide (nextR L c = (k, t, 0, 0)) := by
  by_cases hc : c < L.length
  · rw [next_at hc]
    unfold isR
    rw [List.getElem?_eq_getElem hc]
    have hcl := (hL _ (List.getElem_mem hc)).1
    obtain ⟨⟨a, b, m, p⟩, hx⟩ : ∃ x, L[c] = x := ⟨_, rfl⟩
    rw [hx] at hcl ⊢
    simp only at hcl ⊢
    rw [Bool.eq_iff_iff]
    simp only [Bool.and_eq_true, decide_eq_true_eq, Prod.mk.injEq, and_true]
    constructor
    · rintro ⟨rfl, rfl⟩
      exact ⟨rfl, rfl, hcl (by omega)⟩
    · rintro ⟨h1, h2, _⟩
      exact ⟨h1, h2⟩
  · rw [next_end (by omega), is_empty (by omega)]
    symm
    simp only [decide_eq_false_iff_not, Prod.mk.injEq]
    rintro ⟨h, _⟩
    omega
theorem kind_not {L : List Wd} {c : Nat} (h : ∀ t, isR L c 1 t = false) : ∀ n, kindUp L c n = 0
  | 0 => rfl
  | n + 1 => by rw [kindUp, h, if_neg (by simp)]; exact kind_not h n
theorem kind_next {L : List Wd} (hL : Clean L) (c : Nat) : kindR L c = kindQ (nextR L c) := by
  unfold kindR
  by_cases hc : c < L.length
  · have hd : L.drop c = L[c] :: L.drop (c + 1) := List.drop_eq_getElem_cons hc
    rw [next_at hc]
    have hcl := (hL _ (List.getElem_mem hc)).1
    unfold kindQ
    simp only
    by_cases h1 : L[c].1 = 1
    · rw [kind_at hd h1, if_pos ⟨h1, hcl (by omega), trivial⟩]
    · rw [if_neg (fun h => h1 h.1), kind_not]
      intro t
      rw [is_at hd]
      simp [h1]
  · rw [next_end (by omega)]
    rw [kind_not (fun t => is_empty (by omega))]
    rfl
def opQ (L : List Wd) (c : Nat) (e : Int) : Opn × Nat × Int :=
  if kindQ (nextR L c) = 0 then ((0, 0, 0), c, failE e 5) else
    let k : Int := (kindQ (nextR L c) : Nat)
    let r1 := needQ L c e (1, nameR k, 0, 0)
    let r2 : Int × Nat × Int := if 1 ≤ shN k then rdnR L r1.1 (shA k).1 (shA k).2 r1.2 else (0, r1.1, r1.2)
    let r3 : Int × Nat × Int := if 2 ≤ shN k then rdnR L r2.2.1 (shB k).1 (shB k).2 r2.2.2 else (0, r2.2.1, r2.2.2)
    let r4 := needQ L r3.2.1 r3.2.2 (3, [59], 0, 0)
    ((k, r2.1, r3.1), r4.1, r4.2)
theorem shN_is (k : Int) : shN k = 0 ∨ shN k = 1 ∨ shN k = 2 := by
  unfold shN
  split
  · split
    · exact .inr (.inr rfl)
    · exact .inr (.inl rfl)
  · exact .inl rfl
/-- The reader's op, at any word. -/
theorem op_any {w : World} {b : Nat} {ao : Option Addr} {bw off cap : Nat} {L : List Wd} {c : Nat} {e : Int} (h : RdI w b ao bw off cap L c e) (hL : Clean L) :
    Calls Tryd.prog 88 #[.pointer (some ⟨b, 0, none⟩)] w (StepP (opV (opQ L c e).1) w b ao L.length cap (opQ L c e).2.1 (opQ L c e).2.2) := by
  unfold opQ
  by_cases hk : kindQ (nextR L c) = 0
  · rw [if_pos hk]
    exact op_none h hk
  · rw [if_neg hk]
    simp only
    rcases shN_is ((kindQ (nextR L c) : Nat) : Int) with hn | hn | hn
    · rw [if_neg (by omega), if_neg (by omega)]
      exact op_n0 h rfl hk hn rfl rfl
    · rw [if_pos (by omega), if_neg (by omega)]
      exact op_n1 h hL rfl hk hn rfl rfl rfl
    · rw [if_pos (by omega), if_pos (by omega)]
      exact op_n2 h hL rfl hk hn rfl rfl rfl rfl
theorem need_dead {L : List Wd} {c : Nat} {e : Int} {x : Wd} (he : e ≠ 0) : needQ L c e x = (c, e) := by
  unfold needQ failE
  rw [if_neg (fun h => he h.1), if_neg he]
theorem opQ_dead {L : List Wd} {c : Nat} {e : Int} (he : e ≠ 0) : (opQ L c e).2 = (c, e) := by
  unfold opQ
  split
  · unfold failE
    rw [if_neg he]
  · simp only [need_dead he]
    split <;> split <;> simp only [num_dead he, need_dead he]
theorem need_live {L : List Wd} {c : Nat} {x : Wd} : needQ L c 0 x = if nextR L c = x then (c + 1, 0) else (c, 5) := by
  unfold needQ failE
  by_cases h : nextR L c = x
  · rw [if_pos ⟨rfl, h⟩, if_pos h]
  · rw [if_neg (fun hh => h hh.2), if_neg h, if_pos rfl]
theorem kindQ_next {L : List Wd} {c k : Nat} (h : kindQ (nextR L c) = k) (hk : k ≠ 0) : nextR L c = (1, nameR (k : Int), 0, 0) := by
  refine Decidable.byContradiction fun hne => ?_
  have hall : ∀ j : Nat, 1 ≤ j → j < 12 → nextR L c ≠ (1, nameR (j : Int), 0, 0) := by
    intro j h1 h2 he
    have h3 := kindQ_hit h1 (by omega) he
    rw [h] at h3
    subst h3
    exact hne he
  exact hk (h ▸ kindQ_miss hall)
/-- An op, live: what the document's op is. -/
theorem opQ_live {L : List Wd} (hL : Clean L) {c k : Nat} (h : kindQ (nextR L c) = k) (hk : k ≠ 0) :
    match opR L (c + 1) (k : Int) with
    | .ok (o, a) => opQ L c 0 = (o, a, 0)
    | .error (a, x) => (opQ L c 0).2 = (a, x) ∧ x ≠ 0 := by
  have hx := kindQ_next h hk
  have e1 : needQ L c 0 (1, nameR (k : Int), 0, 0) = (c + 1, 0) := by rw [need_live, if_pos hx]
  have hkk : (k : Int) = 5 → shN (k : Int) = 2 ∧ shB (k : Int) = (1, 64) := by
    intro h5
    rw [h5]
    exact ⟨rfl, rfl⟩
  -- the first number
  have ha : (if 1 ≤ shN (k : Int) then rdnR L (c + 1) (shA (k : Int)).1 (shA (k : Int)).2 0 else (0, c + 1, 0)) =
      match arg1R L (c + 1) (k : Int) with
      | .ok (x, a) => (x, a, 0)
      | .error (a, x) => (0, a, x) := by
    by_cases hl : 0 ≤ (limR (k : Int)).1
    · have q1 : 1 ≤ shN (k : Int) := by
        unfold shN
        rw [if_pos hl]
        split <;> decide
      have q2 : shA (k : Int) = limR (k : Int) := by
        unfold shA
        rw [if_pos hl]
      rw [if_pos q1, q2]
      unfold arg1R
      rw [if_neg (by omega)]
      unfold rdnR
      rw [if_neg (by simp)]
      all_goals (cases argR L (c + 1) (limR (k : Int)).1 (limR (k : Int)).2 <;> rfl)
    · have q1 : ¬ 1 ≤ shN (k : Int) := by
        unfold shN
        rw [if_neg hl]
        decide
      rw [if_neg q1]
      unfold arg1R
      rw [if_pos (by omega)]
  have hb : ∀ a1 : Nat, (if 2 ≤ shN (k : Int) then rdnR L a1 (shB (k : Int)).1 (shB (k : Int)).2 0 else (0, a1, 0)) =
      match arg2R L a1 (k : Int) with
      | .ok (x, a) => (x, a, 0)
      | .error (a, x) => (0, a, x) := by
    intro a1
    unfold arg2R
    by_cases h5 : (k : Int) = 5
    · obtain ⟨q1, q2⟩ := hkk h5
      rw [if_pos h5, q1, q2, if_pos (by decide)]
      unfold rdnR
      rw [if_neg (by simp)]
      all_goals (cases argR L a1 1 64 <;> rfl)
    · have q : ¬ 2 ≤ shN (k : Int) := by
        unfold shN
        split <;> first | decide | (rw [if_neg h5]; decide)
      rw [if_neg h5, if_neg q]
  unfold opQ
  simp only [h]
  rw [if_neg hk]
  simp only [e1, ha]
  cases h1 : arg1R L (c + 1) (k : Int) with
  | error ee =>
    obtain ⟨a, x⟩ := ee
    have hx0 : x ≠ 0 := by
      have := op_bad (op_arg1 h1)
      simp only at this
      omega
    rw [op_arg1 h1]
    simp only
    refine ⟨?_, hx0⟩
    split <;> simp only [num_dead hx0, need_dead hx0]
  | ok xx =>
    obtain ⟨x, a1⟩ := xx
    simp only [hb]
    cases h2 : arg2R L a1 (k : Int) with
    | error ee =>
      obtain ⟨a, y⟩ := ee
      have hy0 : y ≠ 0 := by
        have := op_bad (op_arg2 h1 h2)
        simp only at this
        omega
      rw [op_arg2 h1 h2]
      simp only
      refine ⟨?_, hy0⟩
      simp only [need_dead hy0]
    | ok yy =>
      obtain ⟨y, a2⟩ := yy
      simp only [need_live]
      cases h3 : isR L a2 3 [59] with
      | false =>
        rw [op_semi h1 h2 h3]
        simp only
        rw [is_next hL (.inr rfl), decide_eq_false_iff_not] at h3
        rw [if_neg h3]
        exact ⟨rfl, by decide⟩
      | true =>
        rw [op_done h1 h2 h3]
        simp only
        rw [is_next hL (.inr rfl), decide_eq_true_eq] at h3
        rw [if_pos h3]
/-- How far ops has come: live, or dead. -/
def OpsI (L : List Wd) (A : Except Bad (List Opn × Nat)) (c : Nat) (e : Int) (ops : List Opn) : Prop :=
  (e = 0 ∧ ops.length ≤ 12 ∧ A = opsR L (13 - ops.length) c ops) ∨ (e ≠ 0 ∧ ops.length ≤ 13 ∧ A = .error (c, e))
theorem OpsI.start (L : List Wd) (c : Nat) : OpsI L (opsR L 13 c []) c 0 [] := .inl ⟨rfl, Nat.zero_le _, rfl⟩
theorem OpsI.step {L : List Wd} (hL : Clean L) {A : Except Bad (List Opn × Nat)} {c : Nat} {ops : List Opn} (h : OpsI L A c 0 ops) (hn : nextR L c ≠ (3, [125], 0, 0)) {e1 : Int}
    (he : e1 = if ops.length = 12 ∧ kindQ (nextR L c) ≠ 0 then 6 else 0) : OpsI L A (opQ L c e1).2.1 (opQ L c e1).2.2 (ops ++ [(opQ L c e1).1]) := by
  rcases h with ⟨_, hl, hA⟩ | ⟨hh, _⟩
  case inr => exact absurd rfl hh
  have h125 : isR L c 3 [125] = false := by rw [is_next hL (.inr rfl)]; simpa using hn
  have hkn := kind_next hL c
  by_cases hk : kindQ (nextR L c) = 0
  · rw [if_neg (fun h => h.2 hk)] at he
    subst he
    have eq : opQ L c 0 = ((0, 0, 0), c, 5) := by
      unfold opQ failE
      rw [if_pos hk, if_pos rfl]
    rw [eq]
    exact .inr ⟨by simp, by simp; omega, by rw [hA, ops_none hl h125 (by rw [hkn]; exact hk)]⟩
  · by_cases h12 : ops.length = 12
    · rw [if_pos ⟨h12, hk⟩] at he
      subst he
      rw [opQ_dead (by decide)]
      exact .inr ⟨by simp, by simp; omega, by rw [hA, ops_long h12 h125 (by rw [hkn]; exact hk)]⟩
    · rw [if_neg (fun h => h12 h.1)] at he
      subst he
      have hl' : ops.length < 12 := by omega
      have hkr : ¬ kindR L c = 0 := by rw [hkn]; exact hk
      have hlive := opQ_live hL (c := c) rfl hk
      rw [← hkn] at hlive
      cases ho : opR L (c + 1) ((kindR L c : Nat) : Int) with
      | error ee =>
        obtain ⟨a, x⟩ := ee
        rw [ho] at hlive
        simp only at hlive
        rw [hlive.1]
        exact .inr ⟨hlive.2, by simp; omega, by rw [hA, ops_fail hl' h125 hkr ho]⟩
      | ok oo =>
        obtain ⟨o, a⟩ := oo
        rw [ho] at hlive
        simp only at hlive
        rw [hlive]
        exact .inl ⟨rfl, by simp; omega, by rw [hA, ops_more hl' h125 hkr ho]⟩
theorem opQ_le {L : List Wd} {c : Nat} {e : Int} (h : c ≤ L.length) : (opQ L c e).2.1 ≤ L.length := by
  unfold opQ
  split
  · exact h
  · simp only
    have h1 := needQ_le (e := e) (x := (1, nameR ((kindQ (nextR L c) : Nat) : Int), 0, 0)) h (by show (1 : Int) ≠ 0; decide)
    refine needQ_le ?_ (by show (3 : Int) ≠ 0; decide)
    split <;> split <;> first | exact h1 | exact rdnR_le h1 | exact rdnR_le (rdnR_le h1)
/-- What ops comes to, behind its loop. -/
theorem OpsI.last {L : List Wd} (hL : Clean L) {A : Except Bad (List Opn × Nat)} {c : Nat} {ops : List Opn} (h : OpsI L A c 0 ops) (hn : nextR L c = (3, [125], 0, 0)) :
    A = if ops = [] then .error (c, 4) else .ok (ops, c + 1) := by
  rcases h with ⟨_, hl, hA⟩ | ⟨hh, _⟩
  case inr => exact absurd rfl hh
  have h125 : isR L c 3 [125] = true := by rw [is_next hL (.inr rfl), decide_eq_true_eq]; exact hn
  rw [hA, ops_end hl h125]
end Go.Proofs.YtmcfjlkjijaflaaDoor
