/-
  How many small letters a text begins with.
  The program's isName, isMark.
  Kinds of bytes, for the document.
  Rows of bytes.
  What a word is as a text: the program's way is the document's. No program.
  The program's Text.
  Words as values, in cells, in rows; what Scan and Join answer.
-/
import Derived.Test.YtmcfjlkjijaflaaGreatDoorGAB
import Derived.Lib.AppendStr
import Derived.Lib.BufferRead

/- How many small letters a text begins with. -/
namespace Go.Proofs.YtmcfjlkjijaflaaGreatDoor
open Go.RowKit

set_option maxHeartbeats 400000 in
theorem run_let (s : ByteArray) (w : World) (hs : s.size ≤ maxLen) :
    Calls Tryz.prog 110 #[.string s, .func (.func 111) #[] #[]] w fun e w' => e = .returned (.int .i64 (s.data.toList.takeWhile isLet).length) ∧ w' = w := by
  unfold maxLen at hs
  have HF := Lib.hid (plet_any)
  go_enter Tryz.func110, Tryz.ntmps110
  go_wp2
  go_loop [5] (fun n => ∃ k : Nat, k ≤ s.size ∧ n = .int .i64 k ∧ Hid ((s.data.toList.takeWhile isLet).length = k + ((s.data.toList.drop k).takeWhile isLet).length)) (fun n => s.size - (intOf n).toNat)
  case atStart => exact ⟨0, Nat.zero_le _, rfl, by unfold Hid; simp⟩
  case round =>
    obtain ⟨k, hk, rfl, HK⟩ := hrel
    by_cases hlt : k < s.size
    · have HD := Lib.hid (byte_drop s k hlt)
      have HQ := Lib.hid (HF.out (s[k]) w)
      obtain ⟨c, hc⟩ : ∃ c, s[k] = c := ⟨_, rfl⟩
      rw [hc] at HD HQ
      cases hq : isLet c with
      | true =>
        rw [hq] at HQ
        have HE := Lib.hid hq
        clear hq
        go_wp2_with fail
        with_reducible refine HQ.out.mono ?_
        rintro e w1 ⟨rfl, rfl⟩
        go_wp2
        go_round
        case rel => exact ⟨k + 1, by omega, by go_num, by
          have h := HK.out
          rw [HD.out, List.takeWhile_cons, if_pos HE.out, List.length_cons] at h
          unfold Hid
          omega⟩
        case measure => simp [intOf]; omega
      | false =>
        rw [hq] at HQ
        have HE := Lib.hid hq
        clear hq
        go_wp2_with fail
        with_reducible refine HQ.out.mono ?_
        rintro e w1 ⟨rfl, rfl⟩
        go_wp2
        go_ret
        have h := HK.out
        rw [HD.out, List.takeWhile_cons, if_neg (by rw [HE.out]; decide)] at h
        exact ⟨by rw [h]; rfl, rfl⟩
    · go_wp2
      go_ret
      have h := HK.out
      rw [drop_end s k (by omega)] at h
      exact ⟨by rw [h]; rfl, rfl⟩
end Go.Proofs.YtmcfjlkjijaflaaGreatDoor

/- The program's isName, isMark. -/
namespace Go.Proofs.YtmcfjlkjijaflaaGreatDoor
open Go.RowKit

set_option maxHeartbeats 400000 in
theorem isName_any (s : ByteArray) (w : World) (hs : s.size ≤ maxLen) : Calls Tryz.prog 87 #[.string s] w fun e w' => e = .returned (.bool (nameB s.data.toList)) ∧ w' = w := by
  have HR := Lib.hid (run_let s w hs)
  have HS := Lib.hid (Lib.size_eq s)
  unfold nameB
  by_cases h1 : 1 ≤ s.size
  · by_cases h2 : s.size ≤ 12
    · rw [← HS.out, decide_eq_true h1, decide_eq_true h2]
      obtain ⟨n, hn⟩ : ∃ n, (s.data.toList.takeWhile isLet).length = n := ⟨_, rfl⟩
      rw [hn] at HR ⊢
      clear hn
      cases h3 : decide (n = s.size)
      all_goals
        have h4 : ((n : Int) == (s.size : Int)) = decide (n = s.size) := by rw [Bool.eq_iff_iff]; simp; omega
        rw [h3] at h4
        clear h3
        go_enter Tryz.func87, Tryz.ntmps87
        go_wp2_with fail
        with_reducible refine HR.out.mono ?_
        rintro e w1 ⟨rfl, rfl⟩
        go_wp2
        go_ret
        exact ⟨rfl, rfl⟩
    · rw [← HS.out, decide_eq_true h1, decide_eq_false h2]
      go_enter Tryz.func87, Tryz.ntmps87
      go_wp2
      go_ret
      exact ⟨rfl, rfl⟩
  · rw [← HS.out, decide_eq_false h1]
    go_enter Tryz.func87, Tryz.ntmps87
    go_wp2
    go_ret
    exact ⟨rfl, rfl⟩
set_option maxHeartbeats 400000 in
theorem isMark_any (s : ByteArray) (w : World) : Calls Tryz.prog 90 #[.string s] w fun e w' => e = .returned (.bool (markB s.data.toList)) ∧ w' = w := by
  unfold markB
  rw [← Lib.toList_data]
  cases h1 : (s.toList == [123]) <;> cases h2 : (s.toList == [125]) <;> cases h3 : (s.toList == [59]) <;> cases h4 : (s.toList == [46]) <;> cases h5 : (s.toList == [61])
  all_goals
    go_enter Tryz.func90, Tryz.ntmps90
    go_wp2
    go_ret
    exact ⟨rfl, rfl⟩
end Go.Proofs.YtmcfjlkjijaflaaGreatDoor

/- Kinds of bytes, for the document. -/
namespace Go.Proofs.YtmcfjlkjijaflaaGreatDoor
open Go.RowKit

theorem rlet_z (z : Int) (w : World) : Calls Tryz.prog 83 #[.int .u8 z] w fun e w' => e = .returned (.bool (decide (97 ≤ z) && decide (z ≤ 122))) ∧ w' = w := by
  cases h0 : (decide (97 ≤ z))
  all_goals
    go_enter Tryz.func83, Tryz.ntmps83
    go_wp2
    go_ret
    exact ⟨rfl, rfl⟩
theorem rlet_any (c : By) (w : World) : Calls Tryz.prog 83 #[.int .u8 c.toNat] w fun e w' => e = .returned (.bool (isLet c)) ∧ w' = w := by
  have h := rlet_z (c.toNat : Int) w
  rw [show decide ((97 : Int) ≤ (c.toNat : Int)) = decide (97 ≤ c.toNat) from geb c 97, show decide ((c.toNat : Int) ≤ (122 : Int)) = decide (c.toNat ≤ 122) from leb c 122] at h
  exact h
theorem rdig_z (z : Int) (w : World) : Calls Tryz.prog 84 #[.int .u8 z] w fun e w' => e = .returned (.bool (decide (48 ≤ z) && decide (z ≤ 57))) ∧ w' = w := by
  cases h0 : (decide (48 ≤ z))
  all_goals
    go_enter Tryz.func84, Tryz.ntmps84
    go_wp2
    go_ret
    exact ⟨rfl, rfl⟩
theorem rdig_any (c : By) (w : World) : Calls Tryz.prog 84 #[.int .u8 c.toNat] w fun e w' => e = .returned (.bool (isDig c)) ∧ w' = w := by
  have h := rdig_z (c.toNat : Int) w
  rw [show decide ((48 : Int) ≤ (c.toNat : Int)) = decide (48 ≤ c.toNat) from geb c 48, show decide ((c.toNat : Int) ≤ (57 : Int)) = decide (c.toNat ≤ 57) from leb c 57] at h
  exact h
theorem rmk_z (z : Int) (w : World) : Calls Tryz.prog 85 #[.int .u8 z] w fun e w' => e = .returned (.bool ((z == 123) || ((z == 125) || ((z == 59) || ((z == 46) || ((z == 61))))))) ∧ w' = w := by
  cases h0 : (z == 123) <;> cases h1 : (z == 125) <;> cases h2 : (z == 59) <;> cases h3 : (z == 46)
  all_goals
    go_enter Tryz.func85, Tryz.ntmps85
    go_wp2
    go_ret
    exact ⟨rfl, rfl⟩
theorem rmk_any (c : By) (w : World) : Calls Tryz.prog 85 #[.int .u8 c.toNat] w fun e w' => e = .returned (.bool (isMk c)) ∧ w' = w := by
  have h := rmk_z (c.toNat : Int) w
  rw [show ((c.toNat : Int) == (123 : Int)) = decide (c.toNat = 123) from eqb c 123, show ((c.toNat : Int) == (125 : Int)) = decide (c.toNat = 125) from eqb c 125, show ((c.toNat : Int) == (59 : Int)) = decide (c.toNat = 59) from eqb c 59, show ((c.toNat : Int) == (46 : Int)) = decide (c.toNat = 46) from eqb c 46, show ((c.toNat : Int) == (61 : Int)) = decide (c.toNat = 61) from eqb c 61] at h
  exact h
end Go.Proofs.YtmcfjlkjijaflaaGreatDoor

/- Rows of bytes. -/
namespace Go.Proofs.YtmcfjlkjijaflaaGreatDoor
open Go.RowKit

abbrev bC (l : List By) : List Value := l.map fun b => Value.int .u8 b.toNat
/-- A row of bytes. -/
abbrev BRow (base : Nat) (w : World) (v : Value) (l : List By) : Prop := w.ownsRow base 5 1 v l.length (bC l)
theorem byte_info : (Tryz.prog.info? 5).map (fun i => (i.zero, i.size, i.bytes)) = some (some (.int .u8 0), 1, 1) := by kernel_rfl
/-- A row of bytes as a text. -/
theorem conv_back {base : Nat} {w : World} {v : Value} {l : List By} (h : BRow base w v l) : (convert 90 9 v).run Tryz.prog w = .ok (.string ⟨l.toArray⟩) w := by
  by_cases h0 : 0 < l.length
  · obtain ⟨g, cap, rfl, _, _⟩ := ownsRow_pos h h0
    refine run_convert_bytes_back w _ _ 5 ⟨g, 0, none⟩ cap l Tryz.underlying90 Tryz.underlying5 Tryz.underlying9 fun j hj => ?_
    rw [Addr.add_lit, Nat.zero_add, h.cellAt j (by omega)]
    simp [hj]
  · have hl : l = [] := List.eq_nil_of_length_eq_zero (by omega)
    subst hl
    rcases h.2 with ⟨rfl, _⟩ | ⟨g, cap, cur, rfl, _⟩
    · exact Lib.run_convert_nil_bytes w _ _ 5 0 Tryz.underlying90 Tryz.underlying5 Tryz.underlying9
    · exact run_convert_bytes_back w _ _ 5 ⟨g, 0, none⟩ cap [] Tryz.underlying90 Tryz.underlying5 Tryz.underlying9 fun j hj => by simp at hj
end Go.Proofs.YtmcfjlkjijaflaaGreatDoor

/- What a word is as a text: the program's way is the document's. No program. -/
namespace Go.Proofs.YtmcfjlkjijaflaaGreatDoor

/-- The program's way. -/
def textP (w : Wd) : List By × Int :=
  if w.1 = 1 then if nameB w.2.1 && decide (w.2.2.1 = 0) then (w.2.1, 0) else ([], 1)
  else if w.1 = 2 then if w.2.1 == [] && decide (0 ≤ w.2.2.1) && decide (w.2.2.1 ≤ 999999999) then (digitsR w.2.2.1.toNat, 0) else ([], 1)
  else if w.1 = 3 then if markB w.2.1 && decide (w.2.2.1 = 0) then (w.2.1, 0) else ([], 1)
  else ([], 1)
theorem name_form (n : Nat) (b : Bool) : (decide (1 ≤ n + 1) && decide (n + 1 ≤ 12) && b) = (decide (n < 12) && b) := by
  cases b <;> (rw [Bool.eq_iff_iff]; simp; try omega)
theorem name_one (c : By) (t : List By) : nameB (c :: t) = (isLet c && decide ((t.takeWhile isLet).length = t.length) && decide (t.length < 12)) := by
  unfold nameB
  rw [List.length_cons, name_form]
  by_cases hl : isLet c = true
  · have t1 : (c :: t).takeWhile isLet = c :: t.takeWhile isLet := by rw [List.takeWhile_cons, if_pos hl]
    rw [t1, hl, List.length_cons, Bool.true_and, Bool.and_comm]
    congr 1
    rw [Bool.eq_iff_iff]
    simp
  · have t1 : (c :: t).takeWhile isLet = [] := by rw [List.takeWhile_cons, if_neg hl]
    rw [t1]
    simp only [Bool.not_eq_true] at hl
    rw [hl]
    simp
theorem mark_more (c : By) (t : List By) : markB (c :: t) = (isMk c && decide (t = [])) := by
  cases t with
  | nil => rw [mark_one]; simp
  | cons a t => simp [markB]
theorem text_eq (w : Wd) : textP w = textA w := by
  obtain ⟨k, x, n, p⟩ := w
  unfold textP textA textR
  simp only
  by_cases h2 : k = 2
  · subst h2
    simp only [show ¬ (2 : Int) = 1 by decide, if_false, if_true]
    by_cases hx : x = []
    · subst hx
      by_cases h0 : 0 ≤ n
      · by_cases h9 : n ≤ 999999999
        · simp [h0, h9]
        · simp [h9]
      · simp [h0]
    · have : (x == []) = false := by simpa using hx
      simp [this, hx]
  · rw [if_neg h2]
    rw [if_neg h2]
    by_cases hn : n = 0
    · subst hn
      simp only [ne_eq, not_true, if_false, decide_true, Bool.and_true]
      cases x with
      | nil =>
        by_cases h1 : k = 1
        · simp [h1, name_nil]
        · by_cases h3 : k = 3
          · simp [h3, markB]
          · simp [h1, h3]
      | cons c t =>
        rw [name_one, mark_more]
        dsimp only
        by_cases hl : isLet c = true
        · have e : oneR c t 0 = ((1, c :: t.takeWhile isLet, 0, ((0 : Nat) : Int)), (t.takeWhile isLet).length, decide ((t.takeWhile isLet).length < 12)) := by unfold oneR; rw [if_pos hl]
          rw [e, hl, let_mark hl]
          by_cases h1 : k = 1
          · subst h1
            by_cases hm : (t.takeWhile isLet).length = t.length
            · by_cases h12 : t.length < 12
              · simp [hm, h12]
              · simp [hm, h12]
            · simp [hm]
          · by_cases h3 : k = 3
            · simp [h3]
            · simp [h1, h3]
        · simp only [Bool.not_eq_true] at hl
          by_cases hd : isDig c = true
          · have e : (oneR c t 0).1.1 = 2 := by unfold oneR; rw [if_neg (by simp [hl]), if_pos hd]
            rw [e, hl, dig_mark hd]
            have h2' : ¬ (2 : Int) = k := fun h => h2 h.symm
            simp [h2']
          · simp only [Bool.not_eq_true] at hd
            have e : oneR c t 0 = ((3, [c], 0, ((0 : Nat) : Int)), 0, isMk c) := by unfold oneR; rw [if_neg (by simp [hl]), if_neg (by simp [hd])]
            rw [e, hl]
            by_cases h1 : k = 1
            · simp [h1]
            · by_cases h3 : k = 3
              · subst h3
                cases isMk c with
                | false => simp
                | true =>
                  cases t with
                  | nil => simp
                  | cons a t => simp
              · simp [h1, h3]
    · simp [hn]
end Go.Proofs.YtmcfjlkjijaflaaGreatDoor

/- The program's Text. -/
namespace Go.Proofs.YtmcfjlkjijaflaaGreatDoor
open Go.RowKit

set_option maxHeartbeats 800000 in
theorem text_name (tx : ByteArray) (n p : Int) (w : World) (hs : tx.size ≤ maxLen) :
    Calls Tryz.prog 47 #[.agg #[.int .i64 1, .string tx, .int .i64 n, .int .i64 p]] w fun e w' => e = .returned (if (nameB tx.data.toList && decide (n = 0)) = true then .tuple #[.string tx, .int .i64 0] else .tuple #[.string ⟨#[]⟩, .int .i64 1]) ∧ Below w.heap.size w w' := by
  have HI := Lib.hid (fun W => isName_any tx W hs)
  have HO := Lib.hid (own_any tx)
  obtain ⟨t, ht⟩ : ∃ t, nameB tx.data.toList = t := ⟨_, rfl⟩
  rw [ht] at HI ⊢
  clear ht hs
  cases t with
  | false =>
    rw [if_neg (by simp)]
    go_enter Tryz.func47, Tryz.ntmps47
    go_wp2_with fail
    with_reducible refine (HI.out _).mono ?_
    rintro e w1 ⟨rfl, rfl⟩
    go_wp2
    go_ret2
    exact ⟨rfl, (Below.refl _ _).alloc (Nat.le_refl _) _⟩
  | true =>
    by_cases hn : n = 0
    · subst hn
      rw [if_pos (by simp)]
      go_enter Tryz.func47, Tryz.ntmps47
      go_wp2_with fail
      with_reducible refine (HI.out _).mono ?_
      rintro e w1 ⟨rfl, rfl⟩
      go_wp2_with fail
      with_reducible refine (HO.out _).mono ?_
      rintro e w2 ⟨rfl, hb⟩
      have HB := Lib.hid hb
      clear hb
      go_wp2
      go_ret2
      exact ⟨rfl, ((Below.refl _ _).alloc (Nat.le_refl _) _).trans (HB.out.mono (by simp))⟩
    · rw [if_neg (by simp [hn])]
      have d0 : (n == 0) = false := by simpa using hn
      clear hn
      go_enter Tryz.func47, Tryz.ntmps47
      go_wp2_with fail
      with_reducible refine (HI.out _).mono ?_
      rintro e w1 ⟨rfl, rfl⟩
      go_wp2
      go_ret2
      exact ⟨rfl, (Below.refl _ _).alloc (Nat.le_refl _) _⟩
set_option maxHeartbeats 800000 in
theorem text_mark (tx : ByteArray) (n p : Int) (w : World) :
    Calls Tryz.prog 47 #[.agg #[.int .i64 3, .string tx, .int .i64 n, .int .i64 p]] w fun e w' => e = .returned (if (markB tx.data.toList && decide (n = 0)) = true then .tuple #[.string tx, .int .i64 0] else .tuple #[.string ⟨#[]⟩, .int .i64 1]) ∧ Below w.heap.size w w' := by
  have HI := Lib.hid (fun W => isMark_any tx W)
  have HO := Lib.hid (own_any tx)
  obtain ⟨t, ht⟩ : ∃ t, markB tx.data.toList = t := ⟨_, rfl⟩
  rw [ht] at HI ⊢
  clear ht
  cases t with
  | false =>
    rw [if_neg (by simp)]
    go_enter Tryz.func47, Tryz.ntmps47
    go_wp2_with fail
    with_reducible refine (HI.out _).mono ?_
    rintro e w1 ⟨rfl, rfl⟩
    go_wp2
    go_ret2
    exact ⟨rfl, (Below.refl _ _).alloc (Nat.le_refl _) _⟩
  | true =>
    by_cases hn : n = 0
    · subst hn
      rw [if_pos (by simp)]
      go_enter Tryz.func47, Tryz.ntmps47
      go_wp2_with fail
      with_reducible refine (HI.out _).mono ?_
      rintro e w1 ⟨rfl, rfl⟩
      go_wp2_with fail
      with_reducible refine (HO.out _).mono ?_
      rintro e w2 ⟨rfl, hb⟩
      have HB := Lib.hid hb
      clear hb
      go_wp2
      go_ret2
      exact ⟨rfl, ((Below.refl _ _).alloc (Nat.le_refl _) _).trans (HB.out.mono (by simp))⟩
    · rw [if_neg (by simp [hn])]
      have d0 : (n == 0) = false := by simpa using hn
      clear hn
      go_enter Tryz.func47, Tryz.ntmps47
      go_wp2_with fail
      with_reducible refine (HI.out _).mono ?_
      rintro e w1 ⟨rfl, rfl⟩
      go_wp2
      go_ret2
      exact ⟨rfl, (Below.refl _ _).alloc (Nat.le_refl _) _⟩
set_option maxHeartbeats 800000 in
theorem text_none (k : Int) (tx : ByteArray) (n p : Int) (w : World) (h1 : ¬ k = 1) (h2 : ¬ k = 2) (h3 : ¬ k = 3) :
    Calls Tryz.prog 47 #[.agg #[.int .i64 k, .string tx, .int .i64 n, .int .i64 p]] w fun e w' => e = .returned (.tuple #[.string ⟨#[]⟩, .int .i64 1]) ∧ Below w.heap.size w w' := by
  have d1 : (k == 1) = false := by simpa using h1
  have d2 : (k == 2) = false := by simpa using h2
  have d3 : (k == 3) = false := by simpa using h3
  clear h1 h2 h3
  go_enter Tryz.func47, Tryz.ntmps47
  go_wp2
  go_ret2
  exact ⟨rfl, (Below.refl _ _).alloc (Nat.le_refl _) _⟩
set_option maxHeartbeats 800000 in
theorem text_num (tx : ByteArray) (n p : Int) (w : World) (hT : TabOk w) :
    Calls Tryz.prog 47 #[.agg #[.int .i64 2, .string tx, .int .i64 n, .int .i64 p]] w fun e w' => e = .returned (if (tx.data.toList == [] && decide (0 ≤ n) && decide (n ≤ 999999999)) = true then .tuple #[.string ⟨(digitsR n.toNat).toArray⟩, .int .i64 0] else .tuple #[.string ⟨#[]⟩, .int .i64 1]) ∧ Below w.heap.size w w' := by
  rw [← Lib.toList_data]
  by_cases hx : tx.toList = []
  · by_cases h0 : 0 ≤ n
    · by_cases h9 : n ≤ 999999999
      · rw [if_pos (by simp [hx, h0, h9])]
        obtain ⟨m, rfl⟩ := Int.eq_ofNat_of_zero_le h0
        rw [Int.toNat_natCast]
        have HI := Lib.hid (fun W => itoa_any m (by omega) W)
        have HT := Lib.hid (hT.below (w' := w.alloc (.cells #[.int .i64 2, .string tx, .int .i64 m, .int .i64 p] 72)) ((Below.refl _ _).alloc (Nat.le_refl _) _))
        obtain ⟨r, hr⟩ : ∃ r : ByteArray, ⟨(digitsR m).toArray⟩ = r := ⟨_, rfl⟩
        rw [hr] at HI ⊢
        clear hr hT
        go_enter Tryz.func47, Tryz.ntmps47
        go_wp2_with fail
        with_reducible refine (HI.out _ HT.out).mono ?_
        rintro e w2 ⟨rfl, hb⟩
        have HB := Lib.hid hb
        clear hb
        go_wp2
        go_ret2
        exact ⟨rfl, ((Below.refl _ _).alloc (Nat.le_refl _) _).trans (HB.out.mono (by simp))⟩
      · rw [if_neg (by simp [h9])]
        go_enter Tryz.func47, Tryz.ntmps47
        go_wp2
        go_ret2
        exact ⟨rfl, (Below.refl _ _).alloc (Nat.le_refl _) _⟩
    · rw [if_neg (by simp [h0])]
      go_enter Tryz.func47, Tryz.ntmps47
      go_wp2
      go_ret2
      exact ⟨rfl, (Below.refl _ _).alloc (Nat.le_refl _) _⟩
  · rw [if_neg (by simp [hx])]
    go_enter Tryz.func47, Tryz.ntmps47
    go_wp2
    go_ret2
    exact ⟨rfl, (Below.refl _ _).alloc (Nat.le_refl _) _⟩
/-- A word as a text. -/
theorem text_any (k : Int) (tx : ByteArray) (n p : Int) (w : World) (hs : tx.size ≤ maxLen) (hT : TabOk w) :
    Calls Tryz.prog 47 #[.agg #[.int .i64 k, .string tx, .int .i64 n, .int .i64 p]] w fun e w' => e = .returned (.tuple #[.string ⟨(textA (k, tx.data.toList, n, p)).1.toArray⟩, .int .i64 (textA (k, tx.data.toList, n, p)).2]) ∧ Below w.heap.size w w' := by
  rw [← text_eq]
  unfold textP
  simp only
  by_cases h1 : k = 1
  · subst h1
    rw [if_pos rfl]
    have h := text_name tx n p w hs
    split
    · next hc => rw [if_pos hc] at h; rw [Lib.mk_data]; exact h
    · next hc => rw [if_neg hc] at h; exact h
  · rw [if_neg h1]
    by_cases h2 : k = 2
    · subst h2
      rw [if_pos rfl]
      have h := text_num tx n p w hT
      split
      · next hc => rw [if_pos hc] at h; exact h
      · next hc => rw [if_neg hc] at h; exact h
    · rw [if_neg h2]
      by_cases h3 : k = 3
      · subst h3
        rw [if_pos rfl]
        have h := text_mark tx n p w
        split
        · next hc => rw [if_pos hc] at h; rw [Lib.mk_data]; exact h
        · next hc => rw [if_neg hc] at h; exact h
      · rw [if_neg h3]
        exact text_none k tx n p w h1 h2 h3
end Go.Proofs.YtmcfjlkjijaflaaGreatDoor

/- Words as values, in cells, in rows; what Scan and Join answer. -/
namespace Go.Proofs.YtmcfjlkjijaflaaGreatDoor
open Go.RowKit

/-- A word as a value; its cells. -/
def wdC (w : Wd) : List Value := [.int .i64 w.1, .string ⟨w.2.1.toArray⟩, .int .i64 w.2.2.1, .int .i64 w.2.2.2]
def wdV (w : Wd) : Value := .agg #[.int .i64 w.1, .string ⟨w.2.1.toArray⟩, .int .i64 w.2.2.1, .int .i64 w.2.2.2]
theorem word_cells {w : World} {B : Nat} {a b c d : Value} {t : TypeId} (h : w.heap[B]? = some (.cells #[a, b, c, d] t (0, 0))) :
    w.cell? ⟨B, 0, none⟩ = some a ∧ w.cell? ⟨B, 1, none⟩ = some b ∧ w.cell? ⟨B, 2, none⟩ = some c ∧ w.cell? ⟨B, 3, none⟩ = some d := by
  refine ⟨?_, ?_, ?_, ?_⟩ <;> simp [World.cell?, h]
theorem word_stored {w : World} {B : Nat} {a b c d a' b' c' d' : Value} {t : TypeId} (h : w.heap[B]? = some (.cells #[a, b, c, d] t (0, 0))) :
    ((((w.setCell ⟨B, 0, none⟩ a').setCell ⟨B, 1, none⟩ b').setCell ⟨B, 2, none⟩ c').setCell ⟨B, 3, none⟩ d').heap[B]? = some (.cells #[a', b', c', d'] t (0, 0)) := by
  rw [heap_setCell_same _ _ _ _ _ _ (heap_setCell_same _ _ _ _ _ _ (heap_setCell_same _ _ _ _ _ _ (heap_setCell_same _ _ _ _ _ _ h)))]
  rfl
theorem results_cell_tmp2 {fn : Func} {p u v : Tmp} {ty : TypeId} (h : fn.results = #[.cell p ty, .tmp u, .tmp v]) (tmps : Array Value) (P : Program) (w : World) :
    (results fn tmps).run P w =
      ((asAddr (tmps.getD p undef)).run P w).andThen fun a w₁ => ((loadVar ty a).run P w₁).andThen fun x w₂ => .ok (.tuple #[x, tmps.getD u undef, tmps.getD v undef]) w₂ := by
  simp only [results, h]
  simp [Sem.run_bind, Result.andThen]
theorem word_result2 {fn : Func} {p u v : Tmp} (hf : fn.results = #[.cell p 72, .tmp u, .tmp v]) {tmps : Array Value} {w : World} {B : Nat} {a b c d x y : Value} (hp : tmps.getD p undef = .pointer (some ⟨B, 0, none⟩)) (hu : tmps.getD u undef = x) (hv : tmps.getD v undef = y) (h : w.heap[B]? = some (.cells #[a, b, c, d] 72 (0, 0))) :
    (results fn tmps).run Tryz.prog w = .ok (.tuple #[.agg #[a, b, c, d], x, y]) w := by
  obtain ⟨h0, h1, h2, h3⟩ := word_cells h
  rw [results_cell_tmp2 hf, hp, hu, hv]
  simp [loadVar, go_sem, h0, h1, h2, h3]
abbrev zeroW : Obj := .cells #[.int .i64 0, .string ⟨#[]⟩, .int .i64 0, .int .i64 0] 72
theorem word_below {w w2 : World} {B : Nat} (hb : Below w.heap.size w w2) (hB : w.heap.size ≤ B) (a b c d : Value) :
    Below w.heap.size w ((((w2.setCell ⟨B, 0, none⟩ a).setCell ⟨B, 1, none⟩ b).setCell ⟨B, 2, none⟩ c).setCell ⟨B, 3, none⟩ d) :=
  (((hb.setCell hB _).setCell hB _).setCell hB _).setCell hB _
theorem wdC_len (x : Wd) : (wdC x).length = 4 := rfl
abbrev wdsC (L : List Wd) : List Value := L.flatMap wdC
theorem wdsC_len : ∀ L : List Wd, (wdsC L).length = L.length * 4
  | [] => rfl
  | x :: L => by
    have := wdsC_len L
    simp only [wdsC, List.flatMap_cons, List.length_append, wdC_len, List.length_cons] at this ⊢
    omega
theorem wdsC_get : ∀ (L : List Wd) (j i : Nat) (hj : j < L.length), i < 4 → (wdsC L)[j * 4 + i]? = (wdC L[j])[i]?
  | x :: L, 0, i, _, hi => by
    simp only [wdsC, List.flatMap_cons, Nat.zero_mul, Nat.zero_add, List.getElem_cons_zero]
    rw [List.getElem?_append_left (by rw [wdC_len]; exact hi)]
  | x :: L, j + 1, i, hj, hi => by
    have ih := wdsC_get L j i (by simpa using hj) hi
    have e : (j + 1) * 4 + i = (wdC x).length + (j * 4 + i) := by rw [wdC_len]; omega
    simp only [wdsC, List.flatMap_cons, List.getElem_cons_succ] at ih ⊢
    rw [e, List.getElem?_append_right (by omega), Nat.add_sub_cancel_left]
    exact ih
theorem wdsC_snoc (L : List Wd) (x : Wd) : wdsC (L ++ [x]) = wdsC L ++ wdC x := by simp [wdsC]
/-- A row of words. -/
abbrev WRow (base : Nat) (w : World) (v : Value) (L : List Wd) : Prop := w.ownsRow base 72 4 v L.length (wdsC L)
/-- The cells of a word of a row. -/
theorem row_word {base : Nat} {w : World} {g n cap : Nat} {L : List Wd} (h : WRow base w (.slice (some ⟨g, 0, none⟩) n cap) L) (j : Nat) (hj : j < L.length) :
    w.cell? ⟨g, j * 4, none⟩ = some (.int .i64 L[j].1) ∧ w.cell? ⟨g, j * 4 + 1, none⟩ = some (.string ⟨L[j].2.1.toArray⟩) ∧ w.cell? ⟨g, j * 4 + 2, none⟩ = some (.int .i64 L[j].2.2.1) ∧ w.cell? ⟨g, j * 4 + 3, none⟩ = some (.int .i64 L[j].2.2.2) := by
  obtain ⟨_, _, h1, _⟩ := ownsRow_shape h
  simp only [Value.slice.injEq] at h1
  obtain ⟨_, rfl, _⟩ := h1
  refine ⟨?_, ?_, ?_, ?_⟩
  · rw [h.cellAt _ (by omega)]; exact wdsC_get L j 0 hj (by omega)
  · rw [h.cellAt _ (by omega)]; exact wdsC_get L j 1 hj (by omega)
  · rw [h.cellAt _ (by omega)]; exact wdsC_get L j 2 hj (by omega)
  · rw [h.cellAt _ (by omega)]; exact wdsC_get L j 3 hj (by omega)
theorem word_info : (Tryz.prog.info? 72).map (fun i => (i.zero, i.size, i.bytes)) = some (some (.agg #[.int .i64 0, .string ⟨#[]⟩, .int .i64 0, .int .i64 0]), 4, 40) := by kernel_rfl
theorem word_new (W : World) (a b c d : Value) (t : TypeId) : ∀ (j : Nat) (u : Value), [a, b, c, d][j]? = some u → (W.alloc (.cells #[a, b, c, d] t)).cell? ((⟨W.heap.size, 0, none⟩ : Addr).add j) = some u := by
  intro j u hj
  rw [Addr.add_lit]
  match j, hj with
  | 0, hj => simp at hj; subst hj; simp
  | 1, hj => simp at hj; subst hj; simp
  | 2, hj => simp at hj; subst hj; simp
  | 3, hj => simp at hj; subst hj; simp
def ScanPost (l : List By) (w : World) (e : Ending) (w' : World) : Prop :=
  ∃ v, e = .returned (.tuple #[v, .int .i64 (scanA l).2.1, .int .i64 (scanA l).2.2]) ∧ WRow w.heap.size w' v (scanA l).1 ∧ Below w.heap.size w w'
theorem post_err {l : List By} {k : Nat} (h : scanA l = ([], (k : Int), 5)) {w w' : World} (hb : Below w.heap.size w w') : ScanPost l w (.returned (.tuple #[.slice none 0 0, .int .i64 k, .int .i64 5])) w' := by
  unfold ScanPost
  rw [h]
  exact ⟨_, rfl, World.ownsRow_nil _ _ _ _, hb⟩
theorem post_ok {l : List By} {ws : List Wd} (h : scanA l = (ws, 0, 0)) {w w' : World} {v : Value} (hr : WRow w.heap.size w' v ws) (hb : Below w.heap.size w w') : ScanPost l w (.returned (.tuple #[v, .int .i64 0, .int .i64 0])) w' := by
  unfold ScanPost
  rw [h]
  exact ⟨_, rfl, hr, hb⟩
/-- A slice of words, as it is read. -/
structure WArg (w : World) (ao : Option Addr) (b off : Nat) (L : List Wd) : Prop where
  at_ : 0 < L.length → ao = some ⟨b, off, none⟩ ∧ b < w.heap.size
  cells : ∀ i (hi : i < L.length), w.cell? ⟨b, off + i * 4, none⟩ = some (.int .i64 L[i].1) ∧ w.cell? ⟨b, off + i * 4 + 1, none⟩ = some (.string ⟨L[i].2.1.toArray⟩) ∧ w.cell? ⟨b, off + i * 4 + 2, none⟩ = some (.int .i64 L[i].2.2.1) ∧ w.cell? ⟨b, off + i * 4 + 3, none⟩ = some (.int .i64 L[i].2.2.2)
theorem WArg.below {w w' : World} {ao : Option Addr} {b off : Nat} {L : List Wd} (h : WArg w ao b off L) (hb : Below w.heap.size w w') : WArg w' ao b off L := by
  refine ⟨fun h0 => ⟨(h.at_ h0).1, Nat.lt_of_lt_of_le (h.at_ h0).2 hb.size⟩, fun i hi => ?_⟩
  have hl := (h.at_ (by omega)).2
  obtain ⟨h0, h1, h2, h3⟩ := h.cells i hi
  exact ⟨(hb.cell (p := ⟨b, off + i * 4, none⟩) hl).trans h0, (hb.cell (p := ⟨b, off + i * 4 + 1, none⟩) hl).trans h1, (hb.cell (p := ⟨b, off + i * 4 + 2, none⟩) hl).trans h2, (hb.cell (p := ⟨b, off + i * 4 + 3, none⟩) hl).trans h3⟩
theorem WArg.row_at {base : Nat} {w : World} {g n cap : Nat} {L : List Wd} (h : WRow base w (.slice (some ⟨g, 0, none⟩) n cap) L) : WArg w (some ⟨g, 0, none⟩) g 0 L :=
  ⟨fun _ => ⟨rfl, (h.lt g (by simp [Value.ownBlock])).2⟩, fun i hi => by
    have hr := row_word h i hi
    simpa using hr⟩
theorem WArg.of_row {base : Nat} {w : World} {v : Value} {L : List Wd} (h : WRow base w v L) : ∃ ao b cap, v = .slice ao L.length cap ∧ WArg w ao b 0 L := by
  by_cases h0 : 0 < L.length
  · obtain ⟨g, cap, rfl, _, _⟩ := ownsRow_pos h h0
    refine ⟨_, g, cap, rfl, fun _ => ⟨rfl, (h.lt g (by simp [Value.ownBlock])).2⟩, fun i hi => ?_⟩
    have hr := row_word h i hi
    simpa using hr
  · obtain ⟨a, cap, rfl, _, _⟩ := ownsRow_shape h
    exact ⟨a, 0, cap, rfl, fun h => absurd h h0, fun i hi => by omega⟩
theorem textR_len {x : Wd} {s : List By} (h : textR x = some s) (hx : x.2.1.length ≤ 40) : s.length ≤ 40 := by
  unfold textR at h
  split at h
  · split at h
    · next hc =>
      obtain ⟨_, h0, h9⟩ := hc
      simp only [Option.some.injEq] at h
      rw [← h]
      have := digits_len 8 x.2.2.1.toNat (by omega)
      omega
    · cases h
  · split at h
    · cases h
    · split at h
      · cases h
      · next c t e =>
        split at h
        · simp only [Option.some.injEq] at h
          rw [← h, ← e]
          exact hx
        · cases h
/-- What add makes of a text. -/
def addR (out s : List By) : List By := (if out ≠ [] ∧ s ≠ [59] then out ++ [32] else out) ++ s
theorem addR_len (out s : List By) : (addR out s).length ≤ out.length + s.length + 1 := by
  unfold addR
  split <;> simp <;> omega
theorem joinF_cons (x : Wd) (L : List Wd) (out : List By) : joinF (x :: L) out = match textR x with | some s => joinF L (addR out s) | none => none := rfl
def JoinPost (L : List Wd) (w : World) (e : Ending) (w' : World) : Prop := e = .returned (.tuple #[.string ⟨(joinA L).1.toArray⟩, .int .i64 (joinA L).2]) ∧ Below w.heap.size w w'
theorem join_none {L : List Wd} (h : joinF L [] = none) {w w' : World} (hb : Below w.heap.size w w') : JoinPost L w (.returned (.tuple #[.string ⟨#[]⟩, .int .i64 1])) w' := by
  unfold JoinPost joinA
  rw [h]
  exact ⟨rfl, hb⟩
theorem join_some {L : List Wd} {out : List By} (h : joinF L [] = some out) (hl : out.length ≤ 8000) {w w' : World} (hb : Below w.heap.size w w') : JoinPost L w (.returned (.tuple #[.string ⟨out.toArray⟩, .int .i64 0])) w' := by
  unfold JoinPost joinA
  rw [h]
  simp only
  rw [if_neg (by omega)]
  exact ⟨rfl, hb⟩
end Go.Proofs.YtmcfjlkjijaflaaGreatDoor
