/-
  Scanned words have no field that a word of their kind has not. No program.
-/
import Derived.Test.YtmcfjlkjijaflaaDoorRdNum
namespace Go.Proofs.YtmcfjlkjijaflaaDoor
open Go.RowKit

theorem one_clean (c : By) (t : List By) (p : Nat) : ((oneR c t p).1.1 ≠ 2 → (oneR c t p).1.2.2.1 = 0) ∧ ((oneR c t p).1.1 = 2 → (oneR c t p).1.2.1 = []) := by
  unfold oneR
  split
  · exact ⟨fun _ => rfl, fun h => by simp at h⟩
  · split
    · exact ⟨fun h => absurd rfl h, fun _ => rfl⟩
    · exact ⟨fun _ => rfl, fun h => by simp at h⟩
theorem scan_clean : ∀ (n : Nat) (l : List By) (p : Nat) (adj : Bool) (ws : List Wd), l.length ≤ n → scanR l p adj = .ok ws → Clean ws
  | _, [], p, adj, ws, _, h => by
    rw [scan_nil] at h
    cases h
    intro x hx
    cases hx
  | 0, _ :: _, _, _, _, hl, _ => by simp at hl
  | n + 1, c :: t, p, adj, ws, hl, h => by
    simp only [List.length_cons] at hl
    cases h0 : isBl c with
    | true =>
      rw [scan_blank h0] at h
      exact scan_clean n t _ _ ws (by omega) h
    | false =>
      by_cases h1 : c.toNat = 35
      · rw [scan_remark h0 h1] at h
        refine scan_clean n _ _ _ ws ?_ h
        have := (List.dropWhile_sublist not10 (l := t)).length_le
        omega
      · cases hb : (!(oneR c t p).2.2 || (adj && !decide ((oneR c t p).1.1 = 3))) with
        | true =>
          rw [scan_bad h0 h1 t p adj hb] at h
          cases h
        | false =>
          rw [scan_word h0 h1 t p adj hb] at h
          cases hr : scanR (t.drop (oneR c t p).2.1) (p + 1 + (oneR c t p).2.1) (!decide ((oneR c t p).1.1 = 3)) with
          | error q =>
            rw [hr] at h
            cases h
          | ok l2 =>
            rw [hr] at h
            simp only [prepR, Except.ok.injEq] at h
            subst h
            intro x hx
            rcases List.mem_append.1 hx with hx | hx
            · simp at hx
              subst hx
              exact one_clean c t p
            · exact scan_clean n _ _ _ l2 (by rw [List.length_drop]; omega) hr x hx
theorem scana_clean (l : List By) : Clean (scanA l).1 := by
  unfold scanA
  split
  · intro x hx
    cases hx
  cases h : scanR l 0 false with
  | ok ws => exact scan_clean l.length l 0 false ws (Nat.le_refl _) h
  | error p =>
    intro x hx
    cases hx
end Go.Proofs.YtmcfjlkjijaflaaDoor
