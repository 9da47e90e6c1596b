/-
  The program's Text.
-/
import Derived.Test.YtalnejbpgollkaaDoorTkTextM
import Derived.Test.YtalnejbpgollkaaDoorTkLib
namespace Go.Proofs.YtalnejbpgollkaaDoor
open Go.RowKit

set_option maxHeartbeats 800000 in
theorem text_name (tx : ByteArray) (n p : Int) (w : World) (hs : tx.size ≤ maxLen) :
    Calls Tryd.prog 9 #[.agg #[.int .i64 1, .string tx, .int .i64 n, .int .i64 p]] w fun e w' => e = .returned (if (nameB tx.data.toList && decide (n = 0)) = true then .tuple #[.string tx, .int .i64 0] else .tuple #[.string ⟨#[]⟩, .int .i64 1]) ∧ Below w.heap.size w w' := by
  have HI := Lib.hid (fun W => isName_any tx W hs)
  have HO := Lib.hid (own_any tx)
  obtain ⟨t, ht⟩ : ∃ t, nameB tx.data.toList = t := ⟨_, rfl⟩
  rw [ht] at HI ⊢
  clear ht hs
  cases t with
  | false =>
    rw [if_neg (by simp)]
    go_enter Tryd.func9, Tryd.ntmps9
    go_wp2_with fail
    with_reducible refine (HI.out _).mono ?_
    rintro e w1 ⟨rfl, rfl⟩
    go_wp2
    go_ret2
    exact ⟨rfl, (Below.refl _ _).alloc (Nat.le_refl _) _⟩
  | true =>
    by_cases hn : n = 0
    · subst hn
      rw [if_pos (by simp)]
      go_enter Tryd.func9, Tryd.ntmps9
      go_wp2_with fail
      with_reducible refine (HI.out _).mono ?_
      rintro e w1 ⟨rfl, rfl⟩
      go_wp2_with fail
      with_reducible refine (HO.out _).mono ?_
      rintro e w2 ⟨rfl, hb⟩
      have HB := Lib.hid hb
      clear hb
      go_wp2
      go_ret2
      exact ⟨rfl, ((Below.refl _ _).alloc (Nat.le_refl _) _).trans (HB.out.mono (by simp))⟩
    · rw [if_neg (by simp [hn])]
      have d0 : (n == 0) = false := by simpa using hn
      clear hn
      go_enter Tryd.func9, Tryd.ntmps9
      go_wp2_with fail
      with_reducible refine (HI.out _).mono ?_
      rintro e w1 ⟨rfl, rfl⟩
      go_wp2
      go_ret2
      exact ⟨rfl, (Below.refl _ _).alloc (Nat.le_refl _) _⟩
set_option maxHeartbeats 800000 in
theorem text_mark (tx : ByteArray) (n p : Int) (w : World) :
    Calls Tryd.prog 9 #[.agg #[.int .i64 3, .string tx, .int .i64 n, .int .i64 p]] w fun e w' => e = .returned (if (markB tx.data.toList && decide (n = 0)) = true then .tuple #[.string tx, .int .i64 0] else .tuple #[.string ⟨#[]⟩, .int .i64 1]) ∧ Below w.heap.size w w' := by
  have HI := Lib.hid (fun W => isMark_any tx W)
  have HO := Lib.hid (own_any tx)
  obtain ⟨t, ht⟩ : ∃ t, markB tx.data.toList = t := ⟨_, rfl⟩
  rw [ht] at HI ⊢
  clear ht
  cases t with
  | false =>
    rw [if_neg (by simp)]
    go_enter Tryd.func9, Tryd.ntmps9
    go_wp2_with fail
    with_reducible refine (HI.out _).mono ?_
    rintro e w1 ⟨rfl, rfl⟩
    go_wp2
    go_ret2
    exact ⟨rfl, (Below.refl _ _).alloc (Nat.le_refl _) _⟩
  | true =>
    by_cases hn : n = 0
    · subst hn
      rw [if_pos (by simp)]
      go_enter Tryd.func9, Tryd.ntmps9
      go_wp2_with fail
      with_reducible refine (HI.out _).mono ?_
      rintro e w1 ⟨rfl, rfl⟩
      go_wp2_with fail
      with_reducible refine (HO.out _).mono ?_
      rintro e w2 ⟨rfl, hb⟩
      have HB := Lib.hid hb
      clear hb
      go_wp2
      go_ret2
      exact ⟨rfl, ((Below.refl _ _).alloc (Nat.le_refl _) _).trans (HB.out.mono (by simp))⟩
    · rw [if_neg (by simp [hn])]
      have d0 : (n == 0) = false := by simpa using hn
      clear hn
      go_enter Tryd.func9, Tryd.ntmps9
      go_wp2_with fail
      with_reducible refine (HI.out _).mono ?_
      rintro e w1 ⟨rfl, rfl⟩
      go_wp2
      go_ret2
      exact ⟨rfl, (Below.refl _ _).alloc (Nat.le_refl _) _⟩
set_option maxHeartbeats 800000 in
theorem text_none (k : Int) (tx : ByteArray) (n p : Int) (w : World) (h1 : ¬ k = 1) (h2 : ¬ k = 2) (h3 : ¬ k = 3) :
    Calls Tryd.prog 9 #[.agg #[.int .i64 k, .string tx, .int .i64 n, .int .i64 p]] w fun e w' => e = .returned (.tuple #[.string ⟨#[]⟩, .int .i64 1]) ∧ Below w.heap.size w w' := by
  have d1 : (k == 1) = false := by simpa using h1
  have d2 : (k == 2) = false := by simpa using h2
  have d3 : (k == 3) = false := by simpa using h3
  clear h1 h2 h3
  go_enter Tryd.func9, Tryd.ntmps9
  go_wp2
  go_ret2
  exact ⟨rfl, (Below.refl _ _).alloc (Nat.le_refl _) _⟩
set_option maxHeartbeats 800000 in
theorem text_num (tx : ByteArray) (n p : Int) (w : World) (hT : TabOk w) :
    Calls Tryd.prog 9 #[.agg #[.int .i64 2, .string tx, .int .i64 n, .int .i64 p]] w fun e w' => e = .returned (if (tx.data.toList == [] && decide (0 ≤ n) && decide (n ≤ 999999999)) = true then .tuple #[.string ⟨(digitsR n.toNat).toArray⟩, .int .i64 0] else .tuple #[.string ⟨#[]⟩, .int .i64 1]) ∧ Below w.heap.size w w' := by
  rw [← Lib.toList_data]
  by_cases hx : tx.toList = []
  · by_cases h0 : 0 ≤ n
    · by_cases h9 : n ≤ 999999999
      · rw [if_pos (by simp [hx, h0, h9])]
        obtain ⟨m, rfl⟩ := Int.eq_ofNat_of_zero_le h0
        rw [Int.toNat_natCast]
        have HI := Lib.hid (fun W => itoa_any m (by omega) W)
        have HT := Lib.hid (hT.below (w' := w.alloc (.cells #[.int .i64 2, .string tx, .int .i64 m, .int .i64 p] 25)) ((Below.refl _ _).alloc (Nat.le_refl _) _))
        obtain ⟨r, hr⟩ : ∃ r : ByteArray, ⟨(digitsR m).toArray⟩ = r := ⟨_, rfl⟩
        rw [hr] at HI ⊢
        clear hr hT
        go_enter Tryd.func9, Tryd.ntmps9
        go_wp2_with fail
        with_reducible refine (HI.out _ HT.out).mono ?_
        rintro e w2 ⟨rfl, hb⟩
        have HB := Lib.hid hb
        clear hb
        go_wp2
        go_ret2
        exact ⟨rfl, ((Below.refl _ _).alloc (Nat.le_refl _) _).trans (HB.out.mono (by simp))⟩
      · rw [if_neg (by simp [h9])]
        go_enter Tryd.func9, Tryd.ntmps9
        go_wp2
        go_ret2
        exact ⟨rfl, (Below.refl _ _).alloc (Nat.le_refl _) _⟩
    · rw [if_neg (by simp [h0])]
      go_enter Tryd.func9, Tryd.ntmps9
      go_wp2
      go_ret2
      exact ⟨rfl, (Below.refl _ _).alloc (Nat.le_refl _) _⟩
  · rw [if_neg (by simp [hx])]
    go_enter Tryd.func9, Tryd.ntmps9
    go_wp2
    go_ret2
    exact ⟨rfl, (Below.refl _ _).alloc (Nat.le_refl _) _⟩

/-- A word as a text. -/
theorem text_any (k : Int) (tx : ByteArray) (n p : Int) (w : World) (hs : tx.size ≤ maxLen) (hT : TabOk w) :
    Calls Tryd.prog 9 #[.agg #[.int .i64 k, .string tx, .int .i64 n, .int .i64 p]] w fun e w' => e = .returned (.tuple #[.string ⟨(textA (k, tx.data.toList, n, p)).1.toArray⟩, .int .i64 (textA (k, tx.data.toList, n, p)).2]) ∧ Below w.heap.size w w' := by
  rw [← text_eq]
  unfold textP
  simp only
  by_cases h1 : k = 1
  · subst h1
    rw [if_pos rfl]
    have h := text_name tx n p w hs
    split
    · next hc => rw [if_pos hc] at h; rw [Lib.mk_data]; exact h
    · next hc => rw [if_neg hc] at h; exact h
  · rw [if_neg h1]
    by_cases h2 : k = 2
    · subst h2
      rw [if_pos rfl]
      have h := text_num tx n p w hT
      split
      · next hc => rw [if_pos hc] at h; exact h
      · next hc => rw [if_neg hc] at h; exact h
    · rw [if_neg h2]
      by_cases h3 : k = 3
      · subst h3
        rw [if_pos rfl]
        have h := text_mark tx n p w
        split
        · next hc => rw [if_pos hc] at h; rw [Lib.mk_data]; exact h
        · next hc => rw [if_neg hc] at h; exact h
      · rw [if_neg h3]
        exact text_none k tx n p w h1 h2 h3
end Go.Proofs.YtalnejbpgollkaaDoor
