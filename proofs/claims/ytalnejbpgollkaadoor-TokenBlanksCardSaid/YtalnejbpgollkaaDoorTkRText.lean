/-
  The document's Text.
-/
import Derived.Test.YtalnejbpgollkaaDoorTkDig
namespace Go.Proofs.YtalnejbpgollkaaDoor
open Go.RowKit

set_option maxHeartbeats 1600000 in
theorem rtext_num (tx : ByteArray) (n p : Int) (w : World) :
    Calls Tryd.prog 10 #[.agg #[.int .i64 2, .string tx, .int .i64 n, .int .i64 p]] w fun e w' => e = .returned (if (tx.data.toList == [] && decide (0 ≤ n) && decide (n ≤ 999999999)) = true then .tuple #[.string ⟨(digitsR n.toNat).toArray⟩, .int .i64 0] else .tuple #[.string ⟨#[]⟩, .int .i64 1]) ∧ Below w.heap.size w w' := by
  rw [← Lib.toList_data]
  by_cases hx : tx.toList = []
  · by_cases h0 : 0 ≤ n
    · by_cases h9 : n ≤ 999999999
      · rw [if_pos (by simp [hx, h0, h9])]
        obtain ⟨m, rfl⟩ := Int.eq_ofNat_of_zero_le h0
        rw [Int.toNat_natCast]
        have HI := Lib.hid (rdigits_any m (by omega))
        obtain ⟨r, hr⟩ : ∃ r : ByteArray, ⟨(digitsR m).toArray⟩ = r := ⟨_, rfl⟩
        rw [hr] at HI ⊢
        clear hr
        go_enter Tryd.func10, Tryd.ntmps10
        go_wp2_with fail
        with_reducible refine (HI.out _).mono ?_
        rintro e w2 ⟨rfl, hb⟩
        have HB := Lib.hid hb
        clear hb
        go_wp2
        go_ret2
        exact ⟨rfl, ((Below.refl _ _).alloc (Nat.le_refl _) _).trans (HB.out.mono (by simp))⟩
      · rw [if_neg (by simp [h9])]
        go_enter Tryd.func10, Tryd.ntmps10
        go_wp2
        go_ret2
        exact ⟨rfl, (Below.refl _ _).alloc (Nat.le_refl _) _⟩
    · rw [if_neg (by simp [h0])]
      go_enter Tryd.func10, Tryd.ntmps10
      go_wp2
      go_ret2
      exact ⟨rfl, (Below.refl _ _).alloc (Nat.le_refl _) _⟩
  · rw [if_neg (by simp [hx])]
    go_enter Tryd.func10, Tryd.ntmps10
    go_wp2
    go_ret2
    exact ⟨rfl, (Below.refl _ _).alloc (Nat.le_refl _) _⟩

set_option maxHeartbeats 1600000 in
theorem rtext_none (k : Int) (tx : ByteArray) (n p : Int) (w : World) (h2 : ¬ k = 2) (h : ¬ n = 0 ∨ tx.toList = [] ∨ (¬ k = 1 ∧ ¬ k = 3)) :
    Calls Tryd.prog 10 #[.agg #[.int .i64 k, .string tx, .int .i64 n, .int .i64 p]] w fun e w' => e = .returned (.tuple #[.string ⟨#[]⟩, .int .i64 1]) ∧ Below w.heap.size w w' := by
  have d2 : (k == 2) = false := by simpa using h2
  by_cases hn : n = 0
  · subst hn
    by_cases hx : tx.toList = []
    · clear h h2
      go_enter Tryd.func10, Tryd.ntmps10
      go_wp2
      go_ret2
      exact ⟨rfl, (Below.refl _ _).alloc (Nat.le_refl _) _⟩
    · have hk : ¬ k = 1 ∧ ¬ k = 3 := by simpa [hx] using h
      have d1 : (k != 1) = true := by simpa using hk.1
      have d3 : (k != 3) = true := by simpa using hk.2
      clear h h2 hk
      go_enter Tryd.func10, Tryd.ntmps10
      go_wp2
      go_ret2
      exact ⟨rfl, (Below.refl _ _).alloc (Nat.le_refl _) _⟩
  · have dn : (n != 0) = true := by simpa using hn
    clear h h2 hn
    go_enter Tryd.func10, Tryd.ntmps10
    go_wp2
    go_ret2
    exact ⟨rfl, (Below.refl _ _).alloc (Nat.le_refl _) _⟩

set_option maxHeartbeats 3200000 in
theorem rtext_word (k : Int) (tx : ByteArray) (p : Int) (w : World) (hk : k = 1 ∨ k = 3) (c : By) (t : List By) (hx : tx.data.toList = c :: t) (hs : tx.size ≤ 140737488355328) :
    Calls Tryd.prog 10 #[.agg #[.int .i64 k, .string tx, .int .i64 0, .int .i64 p]] w fun e w' => e = .returned (if (oneR c t 0).2.2 = true ∧ (oneR c t 0).2.1 = t.length ∧ (oneR c t 0).1.1 = k then .tuple #[.string tx, .int .i64 0] else .tuple #[.string ⟨#[]⟩, .int .i64 1]) ∧ Below w.heap.size w w' := by
  have hz : tx.size = t.length + 1 := by rw [Lib.size_eq, hx]; rfl
  have HC := Lib.hid (fun W => one_any tx 0 c t W (by omega) hs (by rw [List.drop_zero]; exact hx))
  obtain ⟨⟨⟨a, b, cc, d⟩, m, ok⟩, ho⟩ : ∃ x, oneR c t 0 = x := ⟨_, rfl⟩
  rw [ho] at HC ⊢
  simp only [wdV] at HC
  rw [show ((0 : Nat) : Int) = 0 from rfl] at HC
  obtain ⟨ty, hty⟩ : ∃ ty : ByteArray, ⟨b.toArray⟩ = ty := ⟨_, rfl⟩
  rw [hty] at HC
  obtain ⟨T, hT⟩ : ∃ T, 0 + 1 + m = T := ⟨_, rfl⟩
  rw [hT] at HC
  have hne : ¬ tx.toList = [] := by rw [Lib.toList_data, hx]; simp
  have hne2 : tx.toList.isEmpty = false := by simpa using hne
  have hm : m = t.length ↔ T = tx.size := by omega
  have HM := Lib.hid hm
  have d2 : (k == 2) = false := by rcases hk with rfl | rfl <;> rfl
  have dk : (k != 1) = true → (k != 3) = false := by rcases hk with rfl | rfl <;> decide
  clear ho hty hT hm hx hs hz hk
  cases ok with
  | false =>
    rw [if_neg (fun h => absurd h.1 (by simp))]
    cases d1 : (k != 1)
    case' true => have d3 := dk d1
    all_goals
      clear dk
      go_enter Tryd.func10, Tryd.ntmps10
      go_wp2_with fail
      with_reducible refine (HC.out _).mono ?_
      rintro e w2 ⟨rfl, hb⟩
      obtain ⟨hc, hf⟩ := bcell hb
      have HB := Lib.hid hb
      have hsz := hb.size
      simp at hsz
      have hlt : w.heap.size < w2.heap.size := by omega
      have hck : w2.cell? ⟨w.heap.size, 0, none⟩ = some (.int .i64 k) := by
        rw [hc _ _ (by simp)]
        simp
      clear hb hc hf
      go_wp2
      go_ret2
      exact ⟨rfl, (((Below.refl _ _).alloc (Nat.le_refl _) _).trans (HB.out.mono (by simp))).alloc (by omega) _⟩
  | true =>
    by_cases hmt : m = t.length
    · have hTz := HM.out.1 hmt
      by_cases hak : a = k
      · rw [if_pos ⟨rfl, hmt, hak⟩]
        have e1 : ((T : Int) != (tx.size : Int)) = false := by simp [hTz]
        have e2 : (a != k) = false := by simp [hak]
        clear hTz hak hmt
        cases d1 : (k != 1)
        case' true => have d3 := dk d1
        all_goals
          clear dk
          go_enter Tryd.func10, Tryd.ntmps10
          go_wp2_with fail
          with_reducible refine (HC.out _).mono ?_
          rintro e w2 ⟨rfl, hb⟩
          obtain ⟨hc, hf⟩ := bcell hb
          have HB := Lib.hid hb
          have hsz := hb.size
          simp at hsz
          have hlt : w.heap.size < w2.heap.size := by omega
          have hck : w2.cell? ⟨w.heap.size, 0, none⟩ = some (.int .i64 k) := by
            rw [hc _ _ (by simp)]
            simp
          clear hb hc hf
          go_wp2
          go_ret2
          exact ⟨rfl, (((Below.refl _ _).alloc (Nat.le_refl _) _).trans (HB.out.mono (by simp))).alloc (by omega) _⟩
      · rw [if_neg (fun h => hak h.2.2)]
        have e1 : ((T : Int) != (tx.size : Int)) = false := by simp [hTz]
        have e2 : (a != k) = true := by simp [hak]
        clear hTz hak hmt
        cases d1 : (k != 1)
        case' true => have d3 := dk d1
        all_goals
          clear dk
          go_enter Tryd.func10, Tryd.ntmps10
          go_wp2_with fail
          with_reducible refine (HC.out _).mono ?_
          rintro e w2 ⟨rfl, hb⟩
          obtain ⟨hc, hf⟩ := bcell hb
          have HB := Lib.hid hb
          have hsz := hb.size
          simp at hsz
          have hlt : w.heap.size < w2.heap.size := by omega
          have hck : w2.cell? ⟨w.heap.size, 0, none⟩ = some (.int .i64 k) := by
            rw [hc _ _ (by simp)]
            simp
          clear hb hc hf
          go_wp2
          go_ret2
          exact ⟨rfl, (((Below.refl _ _).alloc (Nat.le_refl _) _).trans (HB.out.mono (by simp))).alloc (by omega) _⟩
    · rw [if_neg (fun h => hmt h.2.1)]
      have e1 : ((T : Int) != (tx.size : Int)) = true := by
        rw [bne_iff_ne]
        intro h
        exact hmt (HM.out.2 (by omega))
      clear hmt
      cases d1 : (k != 1)
      case' true => have d3 := dk d1
      all_goals
        clear dk
        go_enter Tryd.func10, Tryd.ntmps10
        go_wp2_with fail
        with_reducible refine (HC.out _).mono ?_
        rintro e w2 ⟨rfl, hb⟩
        obtain ⟨hc, hf⟩ := bcell hb
        have HB := Lib.hid hb
        have hsz := hb.size
        simp at hsz
        have hlt : w.heap.size < w2.heap.size := by omega
        have hck : w2.cell? ⟨w.heap.size, 0, none⟩ = some (.int .i64 k) := by
          rw [hc _ _ (by simp)]
          simp
        clear hb hc hf
        go_wp2
        go_ret2
        exact ⟨rfl, (((Below.refl _ _).alloc (Nat.le_refl _) _).trans (HB.out.mono (by simp))).alloc (by omega) _⟩
end Go.Proofs.YtalnejbpgollkaaDoor
