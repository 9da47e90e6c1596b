/-
  A program that may be: its words are clean, and they are joined. No program.
-/
import Derived.Test.YtmcfjlkjijaflaaDoorPgClean
import Derived.Test.YtmcfjlkjijaflaaDoorRgPrint
namespace Go.Proofs.YtmcfjlkjijaflaaDoor
open Go.RowKit

theorem opw_clean (o : Opn) : ∀ x ∈ opW o, (x.1 ≠ 2 → x.2.2.1 = 0) ∧ (x.1 = 2 → x.2.1 = []) := by
  intro x hx
  unfold opW at hx
  simp only [List.mem_cons, List.mem_append] at hx
  rcases hx with rfl | hx | hx | rfl | hx
  · exact ⟨fun _ => rfl, fun h => by simp at h⟩
  · split at hx
    · simp at hx
      subst hx
      exact ⟨fun h => absurd rfl h, fun _ => rfl⟩
    · cases hx
  · split at hx
    · simp at hx
      subst hx
      exact ⟨fun h => absurd rfl h, fun _ => rfl⟩
    · cases hx
  · exact ⟨fun _ => rfl, fun h => by simp at h⟩
  · cases hx
theorem words_clean (p : Prg) : Clean (wordsR p) := by
  intro x hx
  unfold wordsR at hx
  simp only [List.mem_cons, List.mem_append] at hx
  rcases hx with rfl | hx | rfl | hx | rfl | hx
  · exact ⟨fun _ => rfl, fun h => by simp at h⟩
  · split at hx
    · simp at hx
      subst hx
      exact ⟨fun _ => rfl, fun h => by simp at h⟩
    · cases hx
  · exact ⟨fun _ => rfl, fun h => by simp at h⟩
  · obtain ⟨o, _, ho⟩ := List.mem_flatMap.1 hx
    exact opw_clean o x ho
  · exact ⟨fun _ => rfl, fun h => by simp at h⟩
  · cases hx
/-- A word that has a text of so many letters at most. -/
def okW (x : Wd) : Prop := ∃ s, textR x = some s ∧ s.length ≤ 40
theorem join_all : ∀ (ws : List Wd) (out : List By), (∀ x ∈ ws, okW x) → ∃ r, joinF ws out = some r ∧ r.length ≤ out.length + ws.length * 41
  | [], out, _ => ⟨out, rfl, by simp⟩
  | w :: ws, out, h => by
    obtain ⟨s, hs, hl⟩ := h w (by simp)
    simp only [joinF, hs]
    obtain ⟨r, hr, hrl⟩ := join_all ws ((if out ≠ [] ∧ s ≠ [59] then out ++ [32] else out) ++ s) (fun x hx => h x (by simp [hx]))
    refine ⟨r, hr, Nat.le_trans hrl ?_⟩
    have h1 : (if out ≠ [] ∧ s ≠ [59] then out ++ [32] else out).length ≤ out.length + 1 := by
      split <;> simp
    rw [List.length_append, List.length_cons]
    omega
theorem ok_num {n : Int} (h0 : 0 ≤ n) (h1 : n ≤ 64) : okW (2, [], n, 0) := by
  refine ⟨digitsR n.toNat, ?_, ?_⟩
  · unfold textR
    rw [if_pos rfl, if_pos ⟨rfl, h0, by show n ≤ 999999999; omega⟩]
  · obtain ⟨k, rfl⟩ := Int.eq_ofNat_of_zero_le h0
    have hk : k < 65 := by omega
    have : ∀ j : Fin 65, (digitsR j.1).length ≤ 40 := by decide +kernel
    exact this ⟨k, hk⟩
theorem ok_name {k : Int} (h : nameR k ≠ []) : okW (1, nameR k, 0, 0) := by
  have ok : ∀ t : List By, (textR (1, t, 0, 0) = some t ∧ t.length ≤ 40) → okW (1, t, 0, 0) := fun t h => ⟨t, h.1, h.2⟩
  rcases name_kinds h with h | h | h | h | h | h | h | h | h | h | h <;> subst h <;> exact ok _ (by decide +kernel)
theorem ok_op {o : Opn} (h : opMay o = true) : ∀ x ∈ opW o, okW x := by
  intro x hx
  simp only [opMay, Bool.and_eq_true, Bool.not_eq_true', decide_eq_false_iff_not] at h
  obtain ⟨hn, ha, hb⟩ := h
  unfold opW at hx
  simp only [List.mem_cons, List.mem_append] at hx
  rcases hx with rfl | hx | hx | rfl | hx
  · exact ok_name hn
  · split at hx
    · next hl =>
      simp at hx
      subst hx
      unfold aMay at ha
      rw [if_pos hl] at ha
      simp only [Bool.and_eq_true, decide_eq_true_eq] at ha
      have : (limR o.1).2 ≤ 64 := by
        unfold limR
        split
        · decide
        · split
          · decide
          · split
            · decide
            · split <;> decide
      exact ok_num (by omega) (by omega)
    · cases hx
  · split at hx
    · next h5 =>
      simp at hx
      subst hx
      unfold bMay at hb
      rw [if_pos h5] at hb
      simp only [Bool.and_eq_true, decide_eq_true_eq] at hb
      exact ok_num (by omega) (by omega)
    · cases hx
  · exact ⟨[59], by decide +kernel, by decide⟩
  · cases hx
theorem ok_words {p : Prg} (h : mayR p = true) : ∀ x ∈ wordsR p, okW x := by
  intro x hx
  simp only [mayR, Bool.and_eq_true, decide_eq_true_eq, List.all_eq_true] at h
  unfold wordsR at hx
  simp only [List.mem_cons, List.mem_append] at hx
  rcases hx with rfl | hx | rfl | hx | rfl | hx
  · exact ⟨progB, by decide +kernel, by decide⟩
  · split at hx
    · simp at hx
      subst hx
      exact ⟨foreverB, by decide +kernel, by decide⟩
    · cases hx
  · exact ⟨[123], by decide +kernel, by decide⟩
  · obtain ⟨o, ho, hw⟩ := List.mem_flatMap.1 hx
    exact ok_op (h.2.2 o ho) x hw
  · exact ⟨[125], by decide +kernel, by decide⟩
  · cases hx
/-- What may be is printed. -/
theorem print_ok {p : Prg} (h : mayR p = true) : (printR p).2 = 0 := by
  unfold printR
  rw [if_pos h]
  obtain ⟨r, hr, hl⟩ := join_all (wordsR p) [] (ok_words h)
  have h60 := words_len h
  unfold joinA
  rw [hr]
  simp only
  rw [if_neg (by simp only [List.length_nil] at hl; omega)]
theorem print_no {p : Prg} (h : mayR p = false) : printR p = ([], 1) := by
  unfold printR
  rw [h]
  rfl
theorem sameL_refl : ∀ ws : List Wd, sameL ws ws
  | [] => trivial
  | _ :: ws => ⟨⟨rfl, rfl, rfl⟩, sameL_refl ws⟩
/-- The words of a program that may be are parsed to it. -/
theorem parse_words {p : Prg} (h : mayR p = true) : parseR (wordsR p) 0 = (p, ((wordsR p).length : Int), 0) := by
  have h2 := parse_back h (L := wordsR p) (ws := wordsR p) (r := []) (a := 0) (by simp) (sameL_refl _) (Nat.zero_le _)
  simpa using h2
end Go.Proofs.YtmcfjlkjijaflaaDoor
