/-
  The document's One, May.
-/
import Derived.Test.YtmcfjlkjijaflaaRgOps
namespace Go.Proofs.Ytmcfjlkjijaflaa
open Go.RowKit

theorem op_cells {w : World} {B : Nat} {a b c : Value} {t : TypeId} (h : w.heap[B]? = some (.cells #[a, b, c] t (0, 0))) :
    w.cell? ⟨B, 0, none⟩ = some a ∧ w.cell? ⟨B, 1, none⟩ = some b ∧ w.cell? ⟨B, 2, none⟩ = some c := by
  refine ⟨?_, ?_, ?_⟩ <;> simp [World.cell?, h]
theorem two_cells {w : World} {B : Nat} {a b : Value} {t : TypeId} (h : w.heap[B]? = some (.cells #[a, b] t (0, 0))) :
    w.cell? ⟨B, 0, none⟩ = some a ∧ w.cell? ⟨B, 1, none⟩ = some b := by
  refine ⟨?_, ?_⟩ <;> simp [World.cell?, h]
/-- Behind a call that made memory, the box. -/
theorem box_kept {w w2 : World} {X : Obj} (hb : Below (w.alloc X).heap.size (w.alloc X) w2) : w2.heap[w.heap.size]? = some X ∧ Below w.heap.size w w2 := by
  refine ⟨(hb.block _ (by simp)).trans (heap_alloc_new w _), ((Below.refl _ w).alloc (Nat.le_refl _) _).trans (hb.mono (by simp))⟩
theorem bool_iff {x y : Bool} (h : x = true ↔ y = true) : Ending.returned (.bool x) = .returned (.bool y) := by rw [Bool.eq_iff_iff.2 h]
set_option maxHeartbeats 1600000 in
theorem rone_any (k a b : Int) (h0 : -9223372036854775808 ≤ k) (h1 : k ≤ 9223372036854775807) (w : World) :
    Calls Try.prog 19 #[.agg #[.int .i64 k, .int .i64 a, .int .i64 b]] w fun e w' => e = .returned (.bool (opMay (k, a, b))) ∧ Below w.heap.size w w' := by
  obtain ⟨lo, hi, hl⟩ : ∃ lo hi, limR k = (lo, hi) := ⟨_, _, rfl⟩
  have hl2 := fun W => rlim_any k W
  simp only [hl] at hl2
  have HL := Lib.hid hl2
  have hn := fun W => rname_any k h0 h1 W
  obtain ⟨tx, htx⟩ : ∃ tx : ByteArray, ⟨(nameR k).toArray⟩ = tx := ⟨_, rfl⟩
  have ht : tx.toList = nameR k := by rw [Lib.toList_data, ← htx]
  simp only [htx] at hn
  have HN := Lib.hid hn
  clear hn hl2
  by_cases he : nameR k = []
  · have ho : opMay (k, a, b) = false := by unfold opMay; simp [he]
    rw [ho]
    have q1 : (tx.toList == []) = true := by rw [ht, he]; rfl
    have q2 : tx.toList.isEmpty = true := by rw [ht, he]; rfl
    have q0 : tx.toList = [] := by rw [ht, he]
    clear ho he htx ht hl
    go_enter Try.func19, Try.ntmps19
    go_wp2_with fail
    with_reducible refine (HN.out _).mono ?_
    rintro e w1 ⟨rfl, hb⟩
    have HB := Lib.hid (box_kept hb).2
    clear hb
    go_wp2
    go_ret
    exact ⟨rfl, HB.out⟩
  · have ho : opMay (k, a, b) = (aMay (k, a, b) && bMay (k, a, b)) := by unfold opMay; simp [he]
    rw [ho]
    have q1 : (tx.toList == []) = false := by rw [ht]; simpa using he
    have q2 : tx.toList.isEmpty = false := by rw [ht]; simpa using he
    have q0 : ¬ tx.toList = [] := by rw [ht]; exact he
    unfold aMay bMay
    simp only [hl]
    have hlk : k = 5 → lo = 0 := by
      rintro rfl
      have : limR 5 = (0, 7) := by decide
      rw [this] at hl
      simp only [Prod.mk.injEq] at hl
      exact hl.1.symm
    clear ho he htx ht hl
    by_cases hlo : 0 ≤ lo
    · rw [if_pos hlo]
      by_cases h5 : k = 5
      · rw [if_pos h5]
        have h00 := hlk h5
        subst h00
        subst h5
        clear hlk hlo
        go_enter Try.func19, Try.ntmps19
        go_wp2_with fail
        with_reducible refine (HN.out _).mono ?_
        rintro e w1 ⟨rfl, hb⟩
        obtain ⟨hx, hb2⟩ := box_kept hb
        have HB := Lib.hid hb2
        obtain ⟨c0, c1, c2⟩ := op_cells hx
        clear hb hx hb2
        go_wp2_with fail
        with_reducible refine (HL.out _).mono ?_
        rintro e w2 ⟨rfl, rfl⟩
        go_wp2
        all_goals
          go_ret
          refine ⟨bool_iff ?_, HB.out⟩
          first
            | (simp; done)
            | (simp; omega)
      · rw [if_neg h5]
        have h5b : (k == 5) = false := by simpa using h5
        clear hlk
        go_enter Try.func19, Try.ntmps19
        go_wp2_with fail
        with_reducible refine (HN.out _).mono ?_
        rintro e w1 ⟨rfl, hb⟩
        obtain ⟨hx, hb2⟩ := box_kept hb
        have HB := Lib.hid hb2
        obtain ⟨c0, c1, c2⟩ := op_cells hx
        clear hb hx hb2
        go_wp2_with fail
        with_reducible refine (HL.out _).mono ?_
        rintro e w2 ⟨rfl, rfl⟩
        go_wp2
        all_goals
          go_ret
          refine ⟨bool_iff ?_, HB.out⟩
          first
            | (simp; done)
            | (simp; omega)
    · rw [if_neg hlo]
      by_cases h5 : k = 5
      · have := hlk h5
        omega
      · rw [if_neg h5]
        have h5b : (k == 5) = false := by simpa using h5
        clear hlk
        go_enter Try.func19, Try.ntmps19
        go_wp2_with fail
        with_reducible refine (HN.out _).mono ?_
        rintro e w1 ⟨rfl, hb⟩
        obtain ⟨hx, hb2⟩ := box_kept hb
        have HB := Lib.hid hb2
        obtain ⟨c0, c1, c2⟩ := op_cells hx
        clear hb hx hb2
        go_wp2_with fail
        with_reducible refine (HL.out _).mono ?_
        rintro e w2 ⟨rfl, rfl⟩
        go_wp2
        all_goals
          go_ret
          refine ⟨bool_iff ?_, HB.out⟩
          first
            | (simp; done)
            | (simp; omega)
end Go.Proofs.Ytmcfjlkjijaflaa
