/-
  The program's reader of acts, plainly: a kind, numbers, an act, acts.
-/
import Derived.Test.YtmcfjlkjijaflaaDoorRdPlain
import Derived.Test.YtmcfjlkjijaflaaDoorGXA
namespace Go.Proofs.YtmcfjlkjijaflaaDoor
open Go.RowKit

def kindA (x : Wd) : Nat := if x.1 = 1 ∧ x.2.2.1 = 0 ∧ x.2.2.2 = 0 then acT x.2.1 8 else 0
theorem acT_none {t : List By} : ∀ n : Nat, (∀ j : Nat, 1 ≤ j → j ≤ n → t ≠ acName (j : Int)) → acT t n = 0
  | 0, _ => rfl
  | n + 1, h => by
    rw [acT, if_neg (h (n + 1) (by omega) (Nat.le_refl _))]
    exact acT_none n (fun j h1 h2 => h j h1 (by omega))
theorem acT_le (t : List By) : ∀ n : Nat, acT t n ≤ n
  | 0 => Nat.le_refl _
  | n + 1 => by
    have := acT_le t n
    rw [acT]
    split <;> omega
theorem kindA_hit {x : Wd} {n : Nat} (h1 : 1 ≤ n) (h2 : n ≤ 8) (hx : x = (1, acName (n : Int), 0, 0)) : kindA x = n := by
  subst hx
  unfold kindA
  rw [if_pos ⟨rfl, rfl, rfl⟩]
  have h := (act_name (kind_name_ne (k := n) (by omega) h2)).1
  simp only at h ⊢
  omega
theorem kindA_miss {x : Wd} (h : ∀ j : Nat, 1 ≤ j → j < 9 → x ≠ (1, acName (j : Int), 0, 0)) : kindA x = 0 := by
  unfold kindA
  split
  · next hc =>
    refine acT_none 8 (fun j h1 h2 e => h j h1 (by omega) ?_)
    obtain ⟨a, b, c, d⟩ := x
    simp only at hc e ⊢
    obtain ⟨rfl, rfl, rfl⟩ := hc
    rw [e]
  · rfl
theorem kindA_le (x : Wd) : kindA x ≤ 8 := by
  unfold kindA
  split
  · exact acT_le _ _
  · omega
theorem kindA_next {L : List Wd} {c k : Nat} (h : kindA (nextR L c) = k) (hk : k ≠ 0) : nextR L c = (1, acName (k : Int), 0, 0) := by
  refine Decidable.byContradiction fun hne => ?_
  have hall : ∀ j : Nat, 1 ≤ j → j < 9 → nextR L c ≠ (1, acName (j : Int), 0, 0) := by
    intro j h1 h2 he
    have h3 := kindA_hit h1 (by omega) he
    rw [h] at h3
    subst h3
    exact hne he
  exact hk (h ▸ kindA_miss hall)
theorem acup_not {L : List Wd} {c : Nat} (h : ∀ t, isR L c 1 t = false) : ∀ n, acUp L c n = 0
  | 0 => rfl
  | n + 1 => by rw [acUp, h, if_neg (by simp)]; exact acup_not h n
theorem ackind_next {L : List Wd} (hL : Clean L) (c : Nat) : acKind L c = kindA (nextR L c) := by
  unfold acKind
  by_cases hc : c < L.length
  · have hd : L.drop c = L[c] :: L.drop (c + 1) := List.drop_eq_getElem_cons hc
    rw [next_at hc]
    have hcl := (hL _ (List.getElem_mem hc)).1
    unfold kindA
    simp only
    by_cases h1 : L[c].1 = 1
    · rw [acup_at hd h1, if_pos ⟨h1, hcl (by omega), trivial⟩]
    · rw [if_neg (fun h => h1 h.1), acup_not]
      intro t
      rw [is_at hd]
      simp [h1]
  · rw [next_end (by omega)]
    rw [acup_not (fun t => is_empty (by omega))]
    rfl
/-- Each number is one that a script can have. -/
def In9 (L : List Wd) : Prop := ∀ x ∈ L, x.1 = 2 → in9 x.2.2.1 = true
theorem next_in9 {L : List Wd} (hL : Clean L) (hN : In9 L) (c : Nat) : 0 ≤ (nextR L c).2.2.1 ∧ (nextR L c).2.2.1 ≤ 999999999 := by
  by_cases hc : c < L.length
  · rw [next_at hc]
    simp only
    by_cases h2 : L[c].1 = 2
    · have h := hN _ (List.getElem_mem hc) h2
      simpa [in9] using h
    · rw [(hL _ (List.getElem_mem hc)).1 h2]
      omega
  · rw [next_end (by omega)]
    simp only
    omega
def numsQ (L : List Wd) : Nat → Nat → Int → List Int → List Int × Nat × Int
  | 0, c, e, out => (out, c, e)
  | n + 1, c, e, out => numsQ L n (rdnR L c 0 999999999 e).2.1 (rdnR L c 0 999999999 e).2.2 (out ++ [(rdnR L c 0 999999999 e).1])
def acQ (L : List Wd) (c : Nat) (e : Int) : Ac × Nat × Int :=
  if kindA (nextR L c) = 0 then ((0, 0, 0, 0, 0), c, failE e 5) else
    let k : Int := (kindA (nextR L c) : Nat)
    let r1 := needQ L c e (1, acName k, 0, 0)
    let r2 := numsQ L (acMany k) r1.1 r1.2 []
    let r3 := needQ L r2.2.1 r2.2.2 (3, [59], 0, 0)
    (mkAc k r2.1, r3.1, r3.2)
theorem numsQ_dead {L : List Wd} {c : Nat} {e : Int} (he : e ≠ 0) : ∀ (n : Nat) (out : List Int), (numsQ L n c e out).2 = (c, e)
  | 0, out => rfl
  | n + 1, out => by
    rw [numsQ, num_dead he]
    exact numsQ_dead he n _
theorem numsQ_len {L : List Wd} : ∀ (n c : Nat) (e : Int) (out : List Int), (numsQ L n c e out).1.length = out.length + n
  | 0, c, e, out => rfl
  | n + 1, c, e, out => by
    rw [numsQ, numsQ_len n, List.length_append, List.length_singleton]
    omega
theorem numsQ_le {L : List Wd} : ∀ (n c : Nat) (e : Int) (out : List Int), c ≤ L.length → (numsQ L n c e out).2.1 ≤ L.length
  | 0, c, e, out, h => h
  | n + 1, c, e, out, h => by
    rw [numsQ]
    exact numsQ_le n _ _ _ (rdnR_le h)
theorem acQ_dead {L : List Wd} {c : Nat} {e : Int} (he : e ≠ 0) : (acQ L c e).2 = (c, e) := by
  unfold acQ
  split
  · unfold failE
    rw [if_neg he]
  · simp only [need_dead he, numsQ_dead he]
theorem acQ_le {L : List Wd} {c : Nat} {e : Int} (h : c ≤ L.length) : (acQ L c e).2.1 ≤ L.length := by
  unfold acQ
  split
  · exact h
  · simp only
    exact needQ_le (numsQ_le _ _ _ _ (needQ_le h (by simp))) (by simp)
theorem numsQ_live {L : List Wd} (hL : Clean L) (hN : In9 L) : ∀ (n c : Nat) (out : List Int),
    match numsP L n c out with
    | .ok (ns, c1) => numsQ L n c 0 out = (ns, c1, 0)
    | .error (c1, x) => (numsQ L n c 0 out).2 = (c1, x) ∧ x ≠ 0
  | 0, c, out => rfl
  | n + 1, c, out => by
    have hbad : ¬ ((nextR L c).1 = 2 ∧ (nextR L c).2.1 = []) → (numsQ L (n + 1) c 0 out).2 = (c, 5) ∧ (5 : Int) ≠ 0 := by
      intro h
      rw [numsQ, num_no hL h]
      refine ⟨?_, by decide⟩
      show (numsQ L n c (failE 0 5) _).2 = (c, 5)
      rw [numsQ_dead (by decide)]
      rfl
    unfold numsP
    by_cases hc : c < L.length
    · rw [List.getElem?_eq_getElem hc]
      simp only
      by_cases h2 : L[c].1 = 2
      · rw [if_pos h2]
        have hx : nextR L c = (2, [], L[c].2.2.1, 0) := by
          rw [next_at hc, h2, (hL _ (List.getElem_mem hc)).2 h2]
        have hin := hN _ (List.getElem_mem hc) h2
        simp only [in9, Bool.and_eq_true, decide_eq_true_eq] at hin
        rw [numsQ, num_ok hx hin]
        exact numsQ_live hL hN n (c + 1) (out ++ [L[c].2.2.1])
      · rw [if_neg h2]
        refine hbad ?_
        rw [next_at hc]
        exact fun h => h2 h.1
    · rw [List.getElem?_eq_none (by omega)]
      refine hbad ?_
      rw [next_end (by omega)]
      exact fun h => absurd h.1 (by decide)
/-- An act, live: what the document's act is. -/
theorem acQ_live {L : List Wd} (hL : Clean L) (hN : In9 L) {c k : Nat} (h : kindA (nextR L c) = k) (hk : k ≠ 0) :
    match acP L (c + 1) (k : Int) with
    | .ok (o, a) => acQ L c 0 = (o, a, 0)
    | .error (a, x) => (acQ L c 0).2 = (a, x) ∧ x ≠ 0 := by
  have hx := kindA_next h hk
  have e1 : needQ L c 0 (1, acName (k : Int), 0, 0) = (c + 1, 0) := by rw [need_live, if_pos hx]
  have hl := numsQ_live hL hN (acMany (k : Int)) (c + 1) []
  unfold acP acQ
  rw [h, if_neg hk]
  simp only [e1]
  cases hp : numsP L (acMany (k : Int)) (c + 1) [] with
  | error e =>
    rw [hp] at hl
    obtain ⟨h1, h2⟩ := hl
    simp only [h1, need_dead h2]
    exact ⟨trivial, h2⟩
  | ok r =>
    obtain ⟨ns, c1⟩ := r
    rw [hp] at hl
    simp only at hl
    simp only [hl, need_live, is_next hL (c := c1) (k := 3) (t := [59]) (.inr rfl)]
    by_cases hs : nextR L c1 = (3, [59], 0, 0)
    · simp only [hs, decide_true, if_true]
    · simp only [hs, decide_false, Bool.false_eq_true, if_false]
      exact ⟨trivial, by decide⟩
/-- How far the acts are read: live, or with what was met. -/
def AcsI (L : List Wd) (A : Except Bad (List Ac × Nat)) (c : Nat) (e : Int) (out : List Ac) : Prop :=
  (e = 0 ∧ out.length ≤ 4000 ∧ ∃ n, L.length < n + c ∧ acsP L n c out = A) ∨ (e ≠ 0 ∧ out.length ≤ 4001 ∧ A = .error (c, e))
theorem AcsI.start (L : List Wd) (c : Nat) : AcsI L (acsP L (L.length + 1) c []) c 0 [] := .inl ⟨rfl, Nat.zero_le _, L.length + 1, by omega, rfl⟩
theorem AcsI.dead {L : List Wd} {A : Except Bad (List Ac × Nat)} {c : Nat} {e : Int} {out : List Ac} (h : AcsI L A c e out) (he : e ≠ 0) : A = .error (c, e) := by
  rcases h with ⟨h0, _⟩ | ⟨_, _, h⟩
  · exact absurd h0 he
  · exact h
theorem AcsI.len {L : List Wd} {A : Except Bad (List Ac × Nat)} {c : Nat} {e : Int} {out : List Ac} (h : AcsI L A c e out) : out.length ≤ 4001 ∧ (e = 0 → out.length ≤ 4000) := by
  rcases h with ⟨_, h, _⟩ | ⟨h0, h, _⟩
  · exact ⟨by omega, fun _ => h⟩
  · exact ⟨h, fun e0 => absurd e0 h0⟩
theorem AcsI.last {L : List Wd} {A : Except Bad (List Ac × Nat)} {c : Nat} {out : List Ac} (h : AcsI L A c 0 out) (hle : c ≤ L.length) (hc : L.length ≤ c) : A = .ok (out, c) := by
  rcases h with ⟨_, _, n, hn, hA⟩ | ⟨h0, _⟩
  · obtain ⟨m, rfl⟩ : ∃ m, n = m + 1 := ⟨n - 1, by omega⟩
    rw [← hA, acsP, if_pos hc]
  · exact absurd rfl h0
theorem acP_gt {L : List Wd} {c : Nat} {k : Int} {a : Ac} {c2 : Nat} (h : acP L c k = .ok (a, c2)) : c < c2 := by
  have hn : ∀ (n c : Nat) (out ns : List Int) (c1 : Nat), numsP L n c out = .ok (ns, c1) → c ≤ c1 := by
    intro n
    induction n with
    | zero =>
      intro c out ns c1 h
      simp only [numsP, Except.ok.injEq, Prod.mk.injEq] at h
      omega
    | succ n ih =>
      intro c out ns c1 h
      unfold numsP at h
      split at h
      · split at h
        · have := ih _ _ _ _ h
          omega
        · cases h
      · cases h
  unfold acP at h
  split at h
  · cases h
  · next ns c1 hp =>
    have := hn _ _ _ _ _ hp
    split at h
    · simp only [Except.ok.injEq, Prod.mk.injEq] at h
      omega
    · cases h
theorem AcsI.step {L : List Wd} (hL : Clean L) (hN : In9 L) {A : Except Bad (List Ac × Nat)} {c : Nat} {out : List Ac} (h : AcsI L A c 0 out) (hc : c < L.length) {e1 : Int}
    (he : e1 = if out.length = 4000 ∧ kindA (nextR L c) ≠ 0 then (6 : Int) else 0) : AcsI L A (acQ L c e1).2.1 (acQ L c e1).2.2 (out ++ [(acQ L c e1).1]) := by
  rcases h with ⟨_, hl, n, hn, hA⟩ | ⟨h0, _⟩
  · obtain ⟨m, rfl⟩ : ∃ m, n = m + 1 := ⟨n - 1, by omega⟩
    rw [acsP, if_neg (by omega), ackind_next hL] at hA
    have hlen : (out ++ [(acQ L c e1).1]).length ≤ 4001 := by rw [List.length_append, List.length_singleton]; omega
    by_cases hk : kindA (nextR L c) = 0
    · rw [if_pos hk] at hA
      rw [if_neg (fun h => h.2 hk)] at he
      subst he
      have hq : (acQ L c 0).2 = (c, 5) := by
        unfold acQ
        rw [if_pos hk]
        rfl
      rw [hq]
      exact .inr ⟨by show (5 : Int) ≠ 0; decide, hlen, hA.symm⟩
    · rw [if_neg hk] at hA
      by_cases h4 : out.length = 4000
      · rw [if_pos h4] at hA
        rw [if_pos ⟨h4, hk⟩] at he
        subst he
        rw [acQ_dead (by decide)]
        exact .inr ⟨by show (6 : Int) ≠ 0; decide, hlen, hA.symm⟩
      · rw [if_neg h4] at hA
        rw [if_neg (fun h => h4 h.1)] at he
        subst he
        have hq := acQ_live hL hN (c := c) rfl hk
        cases hp : acP L (c + 1) (kindA (nextR L c)) with
        | error e =>
          rw [hp] at hA hq
          obtain ⟨q1, q2⟩ := hq
          simp only at hA
          rw [q1]
          exact .inr ⟨q2, hlen, hA.symm⟩
        | ok r =>
          obtain ⟨a, c2⟩ := r
          rw [hp] at hA hq
          simp only at hA hq
          have hg := acP_gt hp
          rw [hq]
          refine .inl ⟨rfl, by rw [List.length_append, List.length_singleton]; omega, m, by simp only; omega, hA⟩
  · exact absurd rfl h0
end Go.Proofs.YtmcfjlkjijaflaaDoor
