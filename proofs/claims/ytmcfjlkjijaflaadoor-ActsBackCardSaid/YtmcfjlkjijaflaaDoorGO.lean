/-
  Kinds of bytes, for the document.
  The document's one: letters, digits.
  The document's one: a mark, or none; all of it.
  The document's digits of a number.
  The document's Text.
  The document's Join.
-/
import Derived.Test.YtmcfjlkjijaflaaDoorGS
import Derived.Deep.RegionWith
import Derived.Test.YtmcfjlkjijaflaaDoorGT

/- Kinds of bytes, for the document. -/
namespace Go.Proofs.YtmcfjlkjijaflaaDoor
open Go.RowKit

theorem rlet_z (z : Int) (w : World) : Calls Tryd.prog 71 #[.int .u8 z] w fun e w' => e = .returned (.bool (decide (97 ≤ z) && decide (z ≤ 122))) ∧ w' = w := by
  cases h0 : (decide (97 ≤ z))
  all_goals
    go_enter Tryd.func71, Tryd.ntmps71
    go_wp2
    go_ret
    exact ⟨rfl, rfl⟩
theorem rlet_any (c : By) (w : World) : Calls Tryd.prog 71 #[.int .u8 c.toNat] w fun e w' => e = .returned (.bool (isLet c)) ∧ w' = w := by
  have h := rlet_z (c.toNat : Int) w
  rw [show decide ((97 : Int) ≤ (c.toNat : Int)) = decide (97 ≤ c.toNat) from geb c 97, show decide ((c.toNat : Int) ≤ (122 : Int)) = decide (c.toNat ≤ 122) from leb c 122] at h
  exact h
theorem rdig_z (z : Int) (w : World) : Calls Tryd.prog 72 #[.int .u8 z] w fun e w' => e = .returned (.bool (decide (48 ≤ z) && decide (z ≤ 57))) ∧ w' = w := by
  cases h0 : (decide (48 ≤ z))
  all_goals
    go_enter Tryd.func72, Tryd.ntmps72
    go_wp2
    go_ret
    exact ⟨rfl, rfl⟩
theorem rdig_any (c : By) (w : World) : Calls Tryd.prog 72 #[.int .u8 c.toNat] w fun e w' => e = .returned (.bool (isDig c)) ∧ w' = w := by
  have h := rdig_z (c.toNat : Int) w
  rw [show decide ((48 : Int) ≤ (c.toNat : Int)) = decide (48 ≤ c.toNat) from geb c 48, show decide ((c.toNat : Int) ≤ (57 : Int)) = decide (c.toNat ≤ 57) from leb c 57] at h
  exact h
theorem rmk_z (z : Int) (w : World) : Calls Tryd.prog 73 #[.int .u8 z] w fun e w' => e = .returned (.bool ((z == 123) || ((z == 125) || ((z == 59) || ((z == 46) || ((z == 61))))))) ∧ w' = w := by
  cases h0 : (z == 123) <;> cases h1 : (z == 125) <;> cases h2 : (z == 59) <;> cases h3 : (z == 46)
  all_goals
    go_enter Tryd.func73, Tryd.ntmps73
    go_wp2
    go_ret
    exact ⟨rfl, rfl⟩
theorem rmk_any (c : By) (w : World) : Calls Tryd.prog 73 #[.int .u8 c.toNat] w fun e w' => e = .returned (.bool (isMk c)) ∧ w' = w := by
  have h := rmk_z (c.toNat : Int) w
  rw [show ((c.toNat : Int) == (123 : Int)) = decide (c.toNat = 123) from eqb c 123, show ((c.toNat : Int) == (125 : Int)) = decide (c.toNat = 125) from eqb c 125, show ((c.toNat : Int) == (59 : Int)) = decide (c.toNat = 59) from eqb c 59, show ((c.toNat : Int) == (46 : Int)) = decide (c.toNat = 46) from eqb c 46, show ((c.toNat : Int) == (61 : Int)) = decide (c.toNat = 61) from eqb c 61] at h
  exact h
end Go.Proofs.YtmcfjlkjijaflaaDoor

/- The document's one: letters, digits. -/
namespace Go.Proofs.YtmcfjlkjijaflaaDoor
open Go.RowKit

set_option maxRecDepth 100000 in
set_option maxHeartbeats 1600000 in
theorem one_let (s : ByteArray) (p : Nat) (c : By) (t : List By) (w : World) (hp : p < s.size) (hs : s.size ≤ 140737488355328) (hd : s.data.toList.drop p = c :: t) (hl : isLet c = true) :
    Calls Tryd.prog 50 #[.string s, .int .i64 p] w fun e w' => e = .returned (.tuple #[wdV (oneR c t p).1, .int .i64 (p + 1 + (oneR c t p).2.1 : Nat), .bool (oneR c t p).2.2]) ∧ Below w.heap.size w w' := by
  have e : oneR c t p = ((1, c :: t.takeWhile isLet, 0, (p : Int)), (t.takeWhile isLet).length, decide ((t.takeWhile isLet).length < 12)) := by unfold oneR; rw [if_pos hl]
  rw [e]
  have h0 := byte_drop s p hp
  rw [hd] at h0
  obtain ⟨hc, _⟩ := List.cons.inj h0
  have HQ0 := Lib.hid (fun W => hl ▸ rlet_any c W)
  have HW : Hid ((s.data.toList.drop p).takeWhile isLet = c :: t.takeWhile isLet) := by
    unfold Hid
    rw [hd, List.takeWhile_cons, if_pos hl]
  have HL := Lib.hid (fun c W => rlet_any c W)
  obtain ⟨m, hm⟩ : ∃ m, (t.takeWhile isLet).length = m := ⟨_, rfl⟩
  have HM := Lib.hid hm
  have HR : Hid (wdV (1, c :: t.takeWhile isLet, 0, (p : Int)) = .agg #[.int .i64 1, .string (s.extract p (p + 1 + m)), .int .i64 0, .int .i64 p]) := by
    unfold Hid wdV
    rw [Lib.extract_eq, ← HM.out]
    have : (s.data.toList.drop p).take (p + 1 + (t.takeWhile isLet).length - p) = c :: t.takeWhile isLet := by
      rw [← HW.out, show p + 1 + (t.takeWhile isLet).length - p = ((s.data.toList.drop p).takeWhile isLet).length by rw [HW.out]; simp; omega]
      exact take_takeWhile _
    rw [this]
  rw [hm]
  simp only
  rw [HR.out]
  have hc' : s[p] = c := hc.symm
  obtain ⟨b, hb⟩ : ∃ b, decide (m < 12) = b := ⟨_, rfl⟩
  rw [hb]
  obtain ⟨T, hT⟩ : ∃ T, p + 1 + m = T := ⟨_, rfl⟩
  rw [hT]
  have HTT := Lib.hid hT
  clear hT
  have HBB := Lib.hid hb
  clear e h0 hd hl hm HR hb
  clear hc
  go_enter Tryd.func50, Tryd.ntmps50
  go_wp2_with fail
  with_reducible refine (HQ0.out _).mono ?_
  rintro e w1 ⟨rfl, rfl⟩
  clear hc'
  go_wp2_with fail
  go_loop [7] (fun e => ∃ k : Nat, p ≤ k ∧ k ≤ s.size ∧ e = .int .i64 k ∧ Hid (T = k + ((s.data.toList.drop k).takeWhile isLet).length)) (fun e => s.size - (intOf e).toNat)
  case atStart => exact ⟨p, Nat.le_refl _, by omega, rfl, by
    unfold Hid
    rw [HW.out, List.length_cons, HM.out, ← HTT.out]
    omega⟩
  case round =>
    obtain ⟨k, hpk, hk, rfl, HK⟩ := hrel
    by_cases hlt : k < s.size
    · have HD := Lib.hid (byte_drop s k hlt)
      have HQ := Lib.hid (fun W => HL.out (s[k]) W)
      obtain ⟨d, hd⟩ : ∃ d, s[k] = d := ⟨_, rfl⟩
      rw [hd] at HD HQ
      cases hq : isLet d with
      | true =>
        rw [hq] at HQ
        have HE := Lib.hid hq
        clear hq
        go_wp2_with fail
        with_reducible refine (HQ.out _).mono ?_
        rintro e w1 ⟨rfl, rfl⟩
        go_wp2
        go_round
        case rel => exact ⟨k + 1, by omega, by omega, by go_num, by
          have h := HK.out
          rw [HD.out, List.takeWhile_cons, if_pos HE.out, List.length_cons] at h
          unfold Hid
          omega⟩
        case measure => simp [intOf]; omega
      | false =>
        rw [hq] at HQ
        have HE := Lib.hid hq
        clear hq
        have hkm : T = k := by
          have h := HK.out
          rw [HD.out, List.takeWhile_cons, if_neg (by rw [HE.out]; decide)] at h
          simpa using h
        have d12 : decide ((k : Int) - (p : Int) ≤ 12) = b := by
          have := HTT.out
          rw [← HBB.out, Bool.eq_iff_iff]
          simp
          omega
        have HKM := Lib.hid hkm
        clear hkm
        go_wp2_with fail
        with_reducible refine (HQ.out _).mono ?_
        rintro e w1 ⟨rfl, rfl⟩
        go_wp2
        rw [HKM.out]
        exact bodyPost_ret (word_result2 rfl rfl rfl rfl (heap_alloc_new _ _)) rfl ⟨rfl, (Below.refl _ _).alloc (Nat.le_refl _) _⟩
    · have hkm : T = k := by
        have h := HK.out
        rw [drop_end s k (by omega)] at h
        simpa using h
      have d12 : decide ((k : Int) - (p : Int) ≤ 12) = b := by
        have := HTT.out
        rw [← HBB.out, Bool.eq_iff_iff]
        simp
        omega
      have HKM := Lib.hid hkm
      clear hkm
      go_wp2
      rw [HKM.out]
      exact bodyPost_ret (word_result2 rfl rfl rfl rfl (heap_alloc_new _ _)) rfl ⟨rfl, (Below.refl _ _).alloc (Nat.le_refl _) _⟩
/-- The digits so far. -/
theorem digs_next (s : ByteArray) (p k : Nat) (h : p ≤ k) (hk : k < s.size) : (s.data.toList.drop p).take (k + 1 - p) = (s.data.toList.drop p).take (k - p) ++ [s[k]] := by
  have hl : k - p < (s.data.toList.drop p).length := by rw [List.length_drop, ← Lib.size_eq]; omega
  rw [show k + 1 - p = k - p + 1 by omega, List.take_succ_eq_append_getElem hl, List.getElem_drop]
  congr 2
  simp only [show p + (k - p) = k by omega]
  rfl
theorem num_next (l : List By) (d : By) : numR ((l ++ [d]).take 9) = if l.length < 9 then numR (l.take 9) * 10 + (d.toNat - 48) else numR (l.take 9) := by
  by_cases h : l.length < 9
  · rw [if_pos h, List.take_of_length_le (by simp; omega), numR_snoc, List.take_of_length_le (by omega)]
  · rw [if_neg h, List.take_append_of_le_length (by omega)]
theorem num_nine (l : List By) (h : ∀ c ∈ l, isDig c = true) : numR (l.take 9) < 1000000000 := by
  have := num_bound (l.take 9) (fun c hc => h c (List.mem_of_mem_take hc))
  have h9 : (l.take 9).length ≤ 9 := List.length_take_le _ _
  exact Nat.lt_of_lt_of_le this (Nat.le_trans (Nat.pow_le_pow_right (by decide) h9) (by decide))
set_option maxRecDepth 100000 in
set_option maxHeartbeats 3200000 in
theorem one_dig (s : ByteArray) (p : Nat) (c : By) (t : List By) (w : World) (hp : p < s.size) (hs : s.size ≤ 140737488355328) (hd : s.data.toList.drop p = c :: t) (hl : isLet c = false) (hg : isDig c = true) :
    Calls Tryd.prog 50 #[.string s, .int .i64 p] w fun e w' => e = .returned (.tuple #[wdV (oneR c t p).1, .int .i64 (p + 1 + (oneR c t p).2.1 : Nat), .bool (oneR c t p).2.2]) ∧ Below w.heap.size w w' := by
  have e : oneR c t p = ((2, [], ((numR ((c :: t.takeWhile isDig).take 9) : Nat) : Int), (p : Int)), (t.takeWhile isDig).length, decide ((t.takeWhile isDig).length < 9) && (!decide (c.toNat = 48) || decide ((t.takeWhile isDig).length = 0))) := by unfold oneR; rw [if_neg (by simp [hl]), if_pos hg]
  rw [e]
  have h0 := byte_drop s p hp
  rw [hd] at h0
  obtain ⟨hc, _⟩ := List.cons.inj h0
  have HQ0 := Lib.hid (fun W => hl ▸ rlet_any c W)
  have HQ1 := Lib.hid (fun W => hg ▸ rdig_any c W)
  have HW : Hid ((s.data.toList.drop p).takeWhile isDig = c :: t.takeWhile isDig) := by
    unfold Hid
    rw [hd, List.takeWhile_cons, if_pos hg]
  have HL := Lib.hid (fun c W => rdig_any c W)
  obtain ⟨m, hm⟩ : ∃ m, (t.takeWhile isDig).length = m := ⟨_, rfl⟩
  have HM := Lib.hid hm
  have HV : Hid (numR ((c :: t.takeWhile isDig).take 9) = numR (((s.data.toList.drop p).take (p + 1 + m - p)).take 9)) := by
    unfold Hid
    rw [← HW.out, ← HM.out, show p + 1 + (t.takeWhile isDig).length - p = ((s.data.toList.drop p).takeWhile isDig).length by rw [HW.out]; simp; omega, take_takeWhile]
  rw [hm]
  unfold wdV
  simp only
  rw [HV.out]
  obtain ⟨T, hT⟩ : ∃ T, p + 1 + m = T := ⟨_, rfl⟩
  rw [hT]
  have HTT := Lib.hid hT
  clear hT
  have hc' : s[p] = c := hc.symm
  have HC := Lib.hid hc'
  clear e h0 hd hl hg hm hc
  go_enter Tryd.func50, Tryd.ntmps50
  go_wp2_with fail
  with_reducible refine (HQ0.out _).mono ?_
  rintro e w1 ⟨rfl, rfl⟩
  go_wp2_with fail
  with_reducible refine (HQ1.out _).mono ?_
  rintro e w1 ⟨rfl, rfl⟩
  clear hc'
  go_wp2_with fail
  go_loop [7, 8] (fun e n => ∃ k : Nat, p ≤ k ∧ k ≤ s.size ∧ e = .int .i64 k ∧ n = .int .i64 (numR (((s.data.toList.drop p).take (k - p)).take 9) : Nat) ∧ Hid (T = k + ((s.data.toList.drop k).takeWhile isDig).length) ∧ Hid (∀ c ∈ (s.data.toList.drop p).take (k - p), isDig c = true)) (fun e _ => s.size - (intOf e).toNat)
  case atStart => exact ⟨p, Nat.le_refl _, by omega, rfl, by rw [Nat.sub_self]; rfl, by
    unfold Hid
    rw [HW.out, List.length_cons, HM.out, ← HTT.out]
    omega, by unfold Hid; rw [Nat.sub_self]; simp⟩
  case round =>
    obtain ⟨k, hpk, hk, rfl, rfl, HK, HA⟩ := hrel
    have hv9 := num_nine _ HA.out
    have hlen : ((s.data.toList.drop p).take (k - p)).length = k - p := by rw [List.length_take, List.length_drop, ← Lib.size_eq]; omega
    by_cases hlt : k < s.size
    · have HD := Lib.hid (byte_drop s k hlt)
      have hnx := digs_next s p k hpk hlt
      have HQ := Lib.hid (fun W => HL.out (s[k]) W)
      obtain ⟨d, hd⟩ : ∃ d, s[k] = d := ⟨_, rfl⟩
      rw [hd] at HD HQ hnx
      cases hq : isDig d with
      | true =>
        rw [hq] at HQ
        have HE := Lib.hid hq
        have hd48 : 48 ≤ d.toNat ∧ d.toNat ≤ 57 := by simp [isDig] at hq; omega
        have HNX := Lib.hid (hnx ▸ num_next ((s.data.toList.drop p).take (k - p)) d)
        have HA2 : Hid (∀ c ∈ (s.data.toList.drop p).take (k + 1 - p), isDig c = true) := by
          unfold Hid
          rw [hnx]
          intro x hx
          rcases List.mem_append.1 hx with hx | hx
          · exact HA.out x hx
          · rw [List.mem_singleton.1 hx]; exact hq
        rw [hlen] at HNX
        obtain ⟨v, hv⟩ : ∃ v, numR (((s.data.toList.drop p).take (k - p)).take 9) = v := ⟨_, rfl⟩
        rw [hv] at HNX hv9 ⊢
        have hd1 := hd48.1
        have hd2 := hd48.2
        have HK2 : Hid (T = k + 1 + ((s.data.toList.drop (k + 1)).takeWhile isDig).length) := by
          have h := HK.out
          rw [HD.out, List.takeWhile_cons, if_pos HE.out, List.length_cons] at h
          unfold Hid
          omega
        clear hq hnx hlen hv hd48
        by_cases h9 : k - p < 9
        · have d9 : decide ((k : Int) - (p : Int) < 9) = true := by simp; omega
          have HN := HNX.out
          rw [if_pos h9] at HN
          have HN2 := Lib.hid HN
          clear h9 HN
          go_wp2_with fail
          with_reducible refine (HQ.out _).mono ?_
          rintro e w1 ⟨rfl, rfl⟩
          go_wp2
          go_round
          case rel => exact ⟨k + 1, by omega, by omega, by go_num, by rw [HN2.out]; congr 1; omega, HK2, HA2⟩
          case measure => simp [intOf]; omega
        · have d9 : decide ((k : Int) - (p : Int) < 9) = false := by simp; omega
          have HN := HNX.out
          rw [if_neg h9] at HN
          have HN2 := Lib.hid HN
          clear h9 HN
          go_wp2_with fail
          with_reducible refine (HQ.out _).mono ?_
          rintro e w1 ⟨rfl, rfl⟩
          go_wp2
          go_round
          case rel => exact ⟨k + 1, by omega, by omega, by go_num, by rw [HN2.out], HK2, HA2⟩
          case measure => simp [intOf]; omega
      | false =>
        rw [hq] at HQ
        have HE := Lib.hid hq
        clear hq hnx hlen
        have hkm : T = k := by
          have h := HK.out
          rw [HD.out, List.takeWhile_cons, if_neg (by rw [HE.out]; decide)] at h
          simpa using h
        have HKM := Lib.hid hkm
        have e1 : decide ((k : Int) - (p : Int) ≤ 9) = decide (m < 9) := by
          have := HTT.out
          rw [Bool.eq_iff_iff]
          simp
          omega
        have e2 : ((k : Int) == (p : Int) + 1) = decide (m = 0) := by
          have := HTT.out
          rw [Bool.eq_iff_iff]
          simp
          omega
        have e3 : ((c.toNat : Int) != 48) = !decide (c.toNat = 48) := neb c 48
        have hc' := HC.out
        clear hkm
        obtain ⟨v, hv⟩ : ∃ v, numR (((s.data.toList.drop p).take (k - p)).take 9) = v := ⟨_, rfl⟩
        rw [hv]
        have HHV := Lib.hid hv
        clear hv
        cases hb1 : decide (m < 9) <;> cases hb2 : decide (m = 0) <;> cases hb3 : decide (c.toNat = 48)
        all_goals
          have HB1 := Lib.hid hb1
          have HB2 := Lib.hid hb2
          have HB3 := Lib.hid hb3
          rw [hb1] at e1
          rw [hb2] at e2
          rw [hb3] at e3
          clear hb1 hb2 hb3
          go_wp2_with fail
          with_reducible refine (HQ.out _).mono ?_
          rintro e w1 ⟨rfl, rfl⟩
          go_wp2
          rw [HKM.out, HHV.out, HB1.out, HB2.out, HB3.out]
          exact bodyPost_ret (word_result2 rfl rfl rfl rfl (heap_alloc_new _ _)) rfl ⟨rfl, (Below.refl _ _).alloc (Nat.le_refl _) _⟩
    · have hkm : T = k := by
        have h := HK.out
        rw [drop_end s k (by omega)] at h
        simpa using h
      have HKM := Lib.hid hkm
      have e1 : decide ((k : Int) - (p : Int) ≤ 9) = decide (m < 9) := by
        have := HTT.out
        rw [Bool.eq_iff_iff]
        simp
        omega
      have e2 : ((k : Int) == (p : Int) + 1) = decide (m = 0) := by
        have := HTT.out
        rw [Bool.eq_iff_iff]
        simp
        omega
      have e3 : ((c.toNat : Int) != 48) = !decide (c.toNat = 48) := neb c 48
      have hc' := HC.out
      clear hkm
      obtain ⟨v, hv⟩ : ∃ v, numR (((s.data.toList.drop p).take (k - p)).take 9) = v := ⟨_, rfl⟩
      rw [hv]
      have HHV := Lib.hid hv
      clear hv
      cases hb1 : decide (m < 9) <;> cases hb2 : decide (m = 0) <;> cases hb3 : decide (c.toNat = 48)
      all_goals
        have HB1 := Lib.hid hb1
        have HB2 := Lib.hid hb2
        have HB3 := Lib.hid hb3
        rw [hb1] at e1
        rw [hb2] at e2
        rw [hb3] at e3
        clear hb1 hb2 hb3
        go_wp2
        rw [HKM.out, HHV.out, HB1.out, HB2.out, HB3.out]
        exact bodyPost_ret (word_result2 rfl rfl rfl rfl (heap_alloc_new _ _)) rfl ⟨rfl, (Below.refl _ _).alloc (Nat.le_refl _) _⟩
end Go.Proofs.YtmcfjlkjijaflaaDoor

/- The document's one: a mark, or none; all of it. -/
namespace Go.Proofs.YtmcfjlkjijaflaaDoor
open Go.RowKit

set_option maxRecDepth 100000 in
set_option maxHeartbeats 1600000 in
theorem one_mark (s : ByteArray) (p : Nat) (c : By) (t : List By) (w : World) (hp : p < s.size) (hs : s.size ≤ 140737488355328) (hd : s.data.toList.drop p = c :: t) (hl : isLet c = false) (hg : isDig c = false) :
    Calls Tryd.prog 50 #[.string s, .int .i64 p] w fun e w' => e = .returned (.tuple #[wdV (oneR c t p).1, .int .i64 (p + 1 + (oneR c t p).2.1 : Nat), .bool (oneR c t p).2.2]) ∧ Below w.heap.size w w' := by
  have e : oneR c t p = ((3, [c], 0, (p : Int)), 0, isMk c) := by unfold oneR; rw [if_neg (by simp [hl]), if_neg (by simp [hg])]
  rw [e]
  have h0 := byte_drop s p hp
  rw [hd] at h0
  obtain ⟨hc, _⟩ := List.cons.inj h0
  have HQ0 := Lib.hid (fun W => hl ▸ rlet_any c W)
  have HQ1 := Lib.hid (fun W => hg ▸ rdig_any c W)
  have hx : (⟨[c].toArray⟩ : ByteArray) = s.extract p (p + 1) := by
    rw [Lib.extract_eq, hd, show p + 1 - p = 1 by omega]
    rfl
  unfold wdV
  simp only
  rw [hx, Nat.add_zero, Int.natCast_add p 1]
  obtain ⟨b, hb⟩ : ∃ b, isMk c = b := ⟨_, rfl⟩
  have HQ2 := Lib.hid (fun W => hb ▸ rmk_any c W)
  rw [hb]
  have hc' : s[p] = c := hc.symm
  have hp1 : p + 1 ≤ s.size := hp
  obtain ⟨x, hxx⟩ : ∃ x, s.extract p (p + 1) = x := ⟨_, rfl⟩
  rw [hxx]
  have hw : IntKind.i64.wrap ((p : Int) + 1) = (p : Int) + 1 := IntWalk.i64_in _ (by omega)
  have hsl : ∀ W, (Instr.slice 9 (.string s) (some (.int .i64 (p : Int))) (some (.int .i64 ((p : Int) + 1))) none).run Tryd.prog W = .ok (.string x) W := fun W => by
    rw [run_slice_string W 9 s .i64 .i64 (p : Int) ((p : Int) + 1) Tryd.underlying9 (by omega) (by omega) (by omega)]
    rw [show ((p : Int) + 1).toNat = p + 1 by omega, Int.toNat_natCast, hxx]
  clear e h0 hd hl hg hb hx hc hxx
  go_enter Tryd.func50, Tryd.ntmps50
  go_wp2_with fail
  with_reducible refine (HQ0.out _).mono ?_
  rintro e w1 ⟨rfl, rfl⟩
  go_wp2_with fail
  with_reducible refine (HQ1.out _).mono ?_
  rintro e w1 ⟨rfl, rfl⟩
  go_wp2_with fail
  go_region_with ((go_at_call 73; with_reducible refine (HQ2.out _).mono ?_; rintro e w1 ⟨rfl, rfl⟩))
  simp only [List.getElem_toArray, List.getElem_cons_succ, List.getElem_cons_zero, Act.put, List.setIfInBounds_toArray]
  simp only [List.set_cons_succ, List.set_cons_zero]
  go_wp2
  exact bodyPost_ret (word_result2 rfl rfl rfl rfl (heap_alloc_new w _)) rfl ⟨rfl, ((Below.refl _ _).alloc (Nat.le_refl _) _).drew⟩
/-- The word that begins at a place. -/
theorem one_any (s : ByteArray) (p : Nat) (c : By) (t : List By) (w : World) (hp : p < s.size) (hs : s.size ≤ 140737488355328) (hd : s.data.toList.drop p = c :: t) :
    Calls Tryd.prog 50 #[.string s, .int .i64 p] w fun e w' => e = .returned (.tuple #[wdV (oneR c t p).1, .int .i64 (p + 1 + (oneR c t p).2.1 : Nat), .bool (oneR c t p).2.2]) ∧ Below w.heap.size w w' := by
  cases hl : isLet c with
  | true => exact one_let s p c t w hp hs hd hl
  | false =>
    cases hg : isDig c with
    | true => exact one_dig s p c t w hp hs hd hl hg
    | false => exact one_mark s p c t w hp hs hd hl hg
end Go.Proofs.YtmcfjlkjijaflaaDoor

/- The document's digits of a number. -/
namespace Go.Proofs.YtmcfjlkjijaflaaDoor
open Go.RowKit

/-- One byte as a text. -/
theorem conv_one (W : World) (B : Nat) (d : Nat) (hd : d < 10) (h : W.cell? ⟨B, 0, none⟩ = some (.int .u8 (48 + (d : Int)))) :
    (convert 108 9 (.slice (some ⟨B, 0, none⟩) 1 1)).run Tryd.prog W = .ok (.string ⟨[UInt8.ofNat (48 + d)].toArray⟩) W := by
  refine run_convert_bytes_back W _ _ 5 ⟨B, 0, none⟩ 1 [UInt8.ofNat (48 + d)] Tryd.underlying108 Tryd.underlying5 Tryd.underlying9 fun j hj => ?_
  obtain rfl : j = 0 := by simpa using hj
  rw [Addr.add_lit, h]
  simp only [List.getElem_cons_zero, digit_nat hd]
  rfl
set_option maxRecDepth 100000 in
set_option maxHeartbeats 1600000 in
theorem rdig_small (n : Nat) (hn : n < 10) (w : World) : Calls Tryd.prog 86 #[.int .i64 n] w fun e w' => e = .returned (.string ⟨(digitsR n).toArray⟩) ∧ Below w.heap.size w w' := by
  rw [digits_small hn]
  have hw : IntKind.u8.wrap (48 + (n : Int)) = 48 + (n : Int) := by rw [IntKind.wrap_u8]; omega
  have hcv := conv_one (w.alloc (.cells #[.int .u8 (48 + (n : Int))] 5)) w.heap.size n hn (one_cell w _ _)
  obtain ⟨r, hr⟩ : ∃ r : ByteArray, ⟨[UInt8.ofNat (48 + n)].toArray⟩ = r := ⟨_, rfl⟩
  rw [hr] at hcv ⊢
  clear hr
  go_enter Tryd.func86, Tryd.ntmps86
  go_wp2
  go_ret
  exact ⟨rfl, (Below.refl _ _).alloc (Nat.le_refl _) _⟩
set_option maxRecDepth 100000 in
set_option maxHeartbeats 3200000 in
theorem rdig_great (n : Nat) (hn : ¬ n < 10) (h9 : n ≤ 999999999) (ih : ∀ w, Calls Tryd.prog 86 #[.int .i64 (n / 10 : Nat)] w fun e w' => e = .returned (.string ⟨(digitsR (n / 10)).toArray⟩) ∧ Below w.heap.size w w') (w : World) :
    Calls Tryd.prog 86 #[.int .i64 n] w fun e w' => e = .returned (.string ⟨(digitsR n).toArray⟩) ∧ Below w.heap.size w w' := by
  rw [digits_great hn]
  have hm := Nat.mod_lt n (show 0 < 10 by omega)
  have hlen := digits_len 8 (n / 10) (by omega)
  have hq : ((n / 10 : Nat) : Int) = (n : Int) / 10 := by omega
  have hr : ((n % 10 : Nat) : Int) = (n : Int) % 10 := by omega
  have hcv := fun W B => conv_one W B (n % 10) hm
  have hadd := fun W => str_add (digitsR (n / 10)) [UInt8.ofNat (48 + n % 10)] (by simp; omega) W
  obtain ⟨r, hr1⟩ : ∃ r : ByteArray, ⟨[UInt8.ofNat (48 + n % 10)].toArray⟩ = r := ⟨_, rfl⟩
  obtain ⟨x, hx1⟩ : ∃ x : ByteArray, ⟨(digitsR (n / 10)).toArray⟩ = x := ⟨_, rfl⟩
  obtain ⟨y, hy1⟩ : ∃ y : ByteArray, ⟨(digitsR (n / 10) ++ [UInt8.ofNat (48 + n % 10)]).toArray⟩ = y := ⟨_, rfl⟩
  rw [hr1] at hcv hadd
  rw [hx1] at hadd ih
  rw [hy1] at hadd ⊢
  rw [hq] at ih
  rw [hr] at hcv
  have IH := Lib.hid ih
  have b1 : 0 ≤ (n : Int) % 10 := by omega
  have b2 : (n : Int) % 10 ≤ 9 := by omega
  have hw : IntKind.u8.wrap (48 + (n : Int) % 10) = 48 + (n : Int) % 10 := by rw [IntKind.wrap_u8]; omega
  have hw2 : IntKind.i64.wrap (48 + (n : Int) % 10) = 48 + (n : Int) % 10 := IntWalk.i64_in _ (by omega)
  have hw3 : IntKind.i64.wrap ((n : Int) / 10) = (n : Int) / 10 := IntWalk.i64_in _ (by omega)
  have ht : (n : Int).tmod 10 = (n : Int) % 10 := Int.tmod_eq_emod_of_nonneg (by omega)
  have hn10 : decide ((n : Int) < 10) = false := by simp; omega
  clear hr1 hx1 hy1 hq hr hm hlen ih
  go_enter Tryd.func86, Tryd.ntmps86
  go_wp2_with fail
  go_region_with ((go_at_call 86; with_reducible refine (IH.out _).mono ?_; rintro e w1 ⟨rfl, hb⟩; obtain ⟨hc, hf⟩ := bcell hb))
  all_goals
    simp only [List.getElem_toArray, List.getElem_cons_succ, List.getElem_cons_zero, Act.put, List.setIfInBounds_toArray]
    simp only [List.set_cons_succ, List.set_cons_zero]
    have HB := Lib.hid hb
    clear hb hc hf
    go_wp2
    go_ret
    refine ⟨rfl, ?_⟩
    first
      | exact ((Below.refl _ w).drew.trans HB.out).alloc HB.out.size _
      | exact ((Below.refl _ w).drew.alloc (Nat.le_refl _) _).trans (HB.out.mono (by simp))
theorem rdigits_any : ∀ (n : Nat), n ≤ 999999999 → ∀ w : World, Calls Tryd.prog 86 #[.int .i64 n] w fun e w' => e = .returned (.string ⟨(digitsR n).toArray⟩) ∧ Below w.heap.size w w'
  | n, h9, w => by
    by_cases hn : n < 10
    · exact rdig_small n hn w
    · exact rdig_great n hn h9 (fun W => rdigits_any (n / 10) (by omega) W) w
termination_by n => n
decreasing_by omega
end Go.Proofs.YtmcfjlkjijaflaaDoor

/- The document's Text. -/
namespace Go.Proofs.YtmcfjlkjijaflaaDoor
open Go.RowKit

set_option maxHeartbeats 1600000 in
theorem rtext_num (tx : ByteArray) (n p : Int) (w : World) :
    Calls Tryd.prog 65 #[.agg #[.int .i64 2, .string tx, .int .i64 n, .int .i64 p]] w fun e w' => e = .returned (if (tx.data.toList == [] && decide (0 ≤ n) && decide (n ≤ 999999999)) = true then .tuple #[.string ⟨(digitsR n.toNat).toArray⟩, .int .i64 0] else .tuple #[.string ⟨#[]⟩, .int .i64 1]) ∧ Below w.heap.size w w' := by
  rw [← Lib.toList_data]
  by_cases hx : tx.toList = []
  · by_cases h0 : 0 ≤ n
    · by_cases h9 : n ≤ 999999999
      · rw [if_pos (by simp [hx, h0, h9])]
        obtain ⟨m, rfl⟩ := Int.eq_ofNat_of_zero_le h0
        rw [Int.toNat_natCast]
        have HI := Lib.hid (rdigits_any m (by omega))
        obtain ⟨r, hr⟩ : ∃ r : ByteArray, ⟨(digitsR m).toArray⟩ = r := ⟨_, rfl⟩
        rw [hr] at HI ⊢
        clear hr
        go_enter Tryd.func65, Tryd.ntmps65
        go_wp2_with fail
        with_reducible refine (HI.out _).mono ?_
        rintro e w2 ⟨rfl, hb⟩
        have HB := Lib.hid hb
        clear hb
        go_wp2
        go_ret2
        exact ⟨rfl, ((Below.refl _ _).alloc (Nat.le_refl _) _).trans (HB.out.mono (by simp))⟩
      · rw [if_neg (by simp [h9])]
        go_enter Tryd.func65, Tryd.ntmps65
        go_wp2
        go_ret2
        exact ⟨rfl, (Below.refl _ _).alloc (Nat.le_refl _) _⟩
    · rw [if_neg (by simp [h0])]
      go_enter Tryd.func65, Tryd.ntmps65
      go_wp2
      go_ret2
      exact ⟨rfl, (Below.refl _ _).alloc (Nat.le_refl _) _⟩
  · rw [if_neg (by simp [hx])]
    go_enter Tryd.func65, Tryd.ntmps65
    go_wp2
    go_ret2
    exact ⟨rfl, (Below.refl _ _).alloc (Nat.le_refl _) _⟩
set_option maxHeartbeats 1600000 in
theorem rtext_none (k : Int) (tx : ByteArray) (n p : Int) (w : World) (h2 : ¬ k = 2) (h : ¬ n = 0 ∨ tx.toList = [] ∨ (¬ k = 1 ∧ ¬ k = 3)) :
    Calls Tryd.prog 65 #[.agg #[.int .i64 k, .string tx, .int .i64 n, .int .i64 p]] w fun e w' => e = .returned (.tuple #[.string ⟨#[]⟩, .int .i64 1]) ∧ Below w.heap.size w w' := by
  have d2 : (k == 2) = false := by simpa using h2
  by_cases hn : n = 0
  · subst hn
    by_cases hx : tx.toList = []
    · clear h h2
      go_enter Tryd.func65, Tryd.ntmps65
      go_wp2
      go_ret2
      exact ⟨rfl, (Below.refl _ _).alloc (Nat.le_refl _) _⟩
    · have hk : ¬ k = 1 ∧ ¬ k = 3 := by simpa [hx] using h
      have d1 : (k != 1) = true := by simpa using hk.1
      have d3 : (k != 3) = true := by simpa using hk.2
      clear h h2 hk
      go_enter Tryd.func65, Tryd.ntmps65
      go_wp2
      go_ret2
      exact ⟨rfl, (Below.refl _ _).alloc (Nat.le_refl _) _⟩
  · have dn : (n != 0) = true := by simpa using hn
    clear h h2 hn
    go_enter Tryd.func65, Tryd.ntmps65
    go_wp2
    go_ret2
    exact ⟨rfl, (Below.refl _ _).alloc (Nat.le_refl _) _⟩
set_option maxHeartbeats 3200000 in
theorem rtext_word (k : Int) (tx : ByteArray) (p : Int) (w : World) (hk : k = 1 ∨ k = 3) (c : By) (t : List By) (hx : tx.data.toList = c :: t) (hs : tx.size ≤ 140737488355328) :
    Calls Tryd.prog 65 #[.agg #[.int .i64 k, .string tx, .int .i64 0, .int .i64 p]] w fun e w' => e = .returned (if (oneR c t 0).2.2 = true ∧ (oneR c t 0).2.1 = t.length ∧ (oneR c t 0).1.1 = k then .tuple #[.string tx, .int .i64 0] else .tuple #[.string ⟨#[]⟩, .int .i64 1]) ∧ Below w.heap.size w w' := by
  have hz : tx.size = t.length + 1 := by rw [Lib.size_eq, hx]; rfl
  have HC := Lib.hid (fun W => one_any tx 0 c t W (by omega) hs (by rw [List.drop_zero]; exact hx))
  obtain ⟨⟨⟨a, b, cc, d⟩, m, ok⟩, ho⟩ : ∃ x, oneR c t 0 = x := ⟨_, rfl⟩
  rw [ho] at HC ⊢
  simp only [wdV] at HC
  rw [show ((0 : Nat) : Int) = 0 from rfl] at HC
  obtain ⟨ty, hty⟩ : ∃ ty : ByteArray, ⟨b.toArray⟩ = ty := ⟨_, rfl⟩
  rw [hty] at HC
  obtain ⟨T, hT⟩ : ∃ T, 0 + 1 + m = T := ⟨_, rfl⟩
  rw [hT] at HC
  have hne : ¬ tx.toList = [] := by rw [Lib.toList_data, hx]; simp
  have hne2 : tx.toList.isEmpty = false := by simpa using hne
  have hm : m = t.length ↔ T = tx.size := by omega
  have HM := Lib.hid hm
  have d2 : (k == 2) = false := by rcases hk with rfl | rfl <;> rfl
  have dk : (k != 1) = true → (k != 3) = false := by rcases hk with rfl | rfl <;> decide
  clear ho hty hT hm hx hs hz hk
  cases ok with
  | false =>
    rw [if_neg (fun h => absurd h.1 (by simp))]
    cases d1 : (k != 1)
    case' true => have d3 := dk d1
    all_goals
      clear dk
      go_enter Tryd.func65, Tryd.ntmps65
      go_wp2_with fail
      with_reducible refine (HC.out _).mono ?_
      rintro e w2 ⟨rfl, hb⟩
      obtain ⟨hc, hf⟩ := bcell hb
      have HB := Lib.hid hb
      have hsz := hb.size
      simp at hsz
      have hlt : w.heap.size < w2.heap.size := by omega
      have hck : w2.cell? ⟨w.heap.size, 0, none⟩ = some (.int .i64 k) := by
        rw [hc _ _ (by simp)]
        simp
      clear hb hc hf
      go_wp2
      go_ret2
      exact ⟨rfl, (((Below.refl _ _).alloc (Nat.le_refl _) _).trans (HB.out.mono (by simp))).alloc (by omega) _⟩
  | true =>
    by_cases hmt : m = t.length
    · have hTz := HM.out.1 hmt
      by_cases hak : a = k
      · rw [if_pos ⟨rfl, hmt, hak⟩]
        have e1 : ((T : Int) != (tx.size : Int)) = false := by simp [hTz]
        have e2 : (a != k) = false := by simp [hak]
        clear hTz hak hmt
        cases d1 : (k != 1)
        case' true => have d3 := dk d1
        all_goals
          clear dk
          go_enter Tryd.func65, Tryd.ntmps65
          go_wp2_with fail
          with_reducible refine (HC.out _).mono ?_
          rintro e w2 ⟨rfl, hb⟩
          obtain ⟨hc, hf⟩ := bcell hb
          have HB := Lib.hid hb
          have hsz := hb.size
          simp at hsz
          have hlt : w.heap.size < w2.heap.size := by omega
          have hck : w2.cell? ⟨w.heap.size, 0, none⟩ = some (.int .i64 k) := by
            rw [hc _ _ (by simp)]
            simp
          clear hb hc hf
          go_wp2
          go_ret2
          exact ⟨rfl, (((Below.refl _ _).alloc (Nat.le_refl _) _).trans (HB.out.mono (by simp))).alloc (by omega) _⟩
      · rw [if_neg (fun h => hak h.2.2)]
        have e1 : ((T : Int) != (tx.size : Int)) = false := by simp [hTz]
        have e2 : (a != k) = true := by simp [hak]
        clear hTz hak hmt
        cases d1 : (k != 1)
        case' true => have d3 := dk d1
        all_goals
          clear dk
          go_enter Tryd.func65, Tryd.ntmps65
          go_wp2_with fail
          with_reducible refine (HC.out _).mono ?_
          rintro e w2 ⟨rfl, hb⟩
          obtain ⟨hc, hf⟩ := bcell hb
          have HB := Lib.hid hb
          have hsz := hb.size
          simp at hsz
          have hlt : w.heap.size < w2.heap.size := by omega
          have hck : w2.cell? ⟨w.heap.size, 0, none⟩ = some (.int .i64 k) := by
            rw [hc _ _ (by simp)]
            simp
          clear hb hc hf
          go_wp2
          go_ret2
          exact ⟨rfl, (((Below.refl _ _).alloc (Nat.le_refl _) _).trans (HB.out.mono (by simp))).alloc (by omega) _⟩
    · rw [if_neg (fun h => hmt h.2.1)]
      have e1 : ((T : Int) != (tx.size : Int)) = true := by
        rw [bne_iff_ne]
        intro h
        exact hmt (HM.out.2 (by omega))
      clear hmt
      cases d1 : (k != 1)
      case' true => have d3 := dk d1
      all_goals
        clear dk
        go_enter Tryd.func65, Tryd.ntmps65
        go_wp2_with fail
        with_reducible refine (HC.out _).mono ?_
        rintro e w2 ⟨rfl, hb⟩
        obtain ⟨hc, hf⟩ := bcell hb
        have HB := Lib.hid hb
        have hsz := hb.size
        simp at hsz
        have hlt : w.heap.size < w2.heap.size := by omega
        have hck : w2.cell? ⟨w.heap.size, 0, none⟩ = some (.int .i64 k) := by
          rw [hc _ _ (by simp)]
          simp
        clear hb hc hf
        go_wp2
        go_ret2
        exact ⟨rfl, (((Below.refl _ _).alloc (Nat.le_refl _) _).trans (HB.out.mono (by simp))).alloc (by omega) _⟩
theorem rtext_any (k : Int) (tx : ByteArray) (n p : Int) (w : World) (hs : tx.size ≤ 140737488355328) :
    Calls Tryd.prog 65 #[.agg #[.int .i64 k, .string tx, .int .i64 n, .int .i64 p]] w fun e w' => e = .returned (.tuple #[.string ⟨(textA (k, tx.data.toList, n, p)).1.toArray⟩, .int .i64 (textA (k, tx.data.toList, n, p)).2]) ∧ Below w.heap.size w w' := by
  by_cases h2 : k = 2
  · subst h2
    rw [← text_eq]
    have e : textP (2, tx.data.toList, n, p) = if (tx.data.toList == [] && decide (0 ≤ n) && decide (n ≤ 999999999)) = true then (digitsR n.toNat, 0) else ([], 1) := by
      unfold textP
      rw [if_neg (show ¬ (2 : Int) = 1 by decide), if_pos rfl]
    rw [e]
    have h := rtext_num tx n p w
    split
    · next hc => rw [if_pos hc] at h; exact h
    · next hc => rw [if_neg hc] at h; exact h
  · by_cases hn : n = 0
    · subst hn
      cases hx : tx.data.toList with
      | nil =>
        have e : textA (k, [], 0, p) = ([], 1) := by unfold textA textR; simp [h2]
        rw [e]
        exact rtext_none k tx 0 p w h2 (.inr (.inl (by rw [Lib.toList_data]; exact hx)))
      | cons c t =>
        by_cases hk : k = 1 ∨ k = 3
        · have h := rtext_word k tx p w hk c t hx hs
          by_cases hc : (oneR c t 0).2.2 = true ∧ (oneR c t 0).2.1 = t.length ∧ (oneR c t 0).1.1 = k
          · have e : textA (k, c :: t, 0, p) = (c :: t, 0) := by
              unfold textA textR
              simp only
              rw [if_neg h2, if_neg (by simp), if_pos ⟨hk, hc⟩]
            rw [if_pos hc] at h
            rw [e, ← hx, Lib.mk_data]
            exact h
          · have e : textA (k, c :: t, 0, p) = ([], 1) := by
              unfold textA textR
              simp only
              rw [if_neg h2, if_neg (by simp), if_neg (fun h => hc h.2)]
            rw [if_neg hc] at h
            rw [e]
            exact h
        · have e : textA (k, c :: t, 0, p) = ([], 1) := by
            unfold textA textR
            simp only
            rw [if_neg h2, if_neg (by simp), if_neg (fun h => hk h.1)]
          rw [e]
          exact rtext_none k tx 0 p w h2 (.inr (.inr ⟨fun h => hk (.inl h), fun h => hk (.inr h)⟩))
    · have e : textA (k, tx.data.toList, n, p) = ([], 1) := by
        unfold textA textR
        simp only
        rw [if_neg h2, if_pos (by simpa using hn)]
      rw [e]
      exact rtext_none k tx n p w h2 (.inl hn)
end Go.Proofs.YtmcfjlkjijaflaaDoor

/- The document's Join. -/
namespace Go.Proofs.YtmcfjlkjijaflaaDoor
open Go.RowKit

theorem rjoin_over {L : List Wd} {out : List By} (h : joinF L [] = some out) (hl : 8000 < out.length) {w w' : World} (hb : Below w.heap.size w w') : JoinPost L w (.returned (.tuple #[.string ⟨#[]⟩, .int .i64 6])) w' := by
  unfold JoinPost joinA
  rw [h]
  simp only
  rw [if_pos hl]
  exact ⟨rfl, hb⟩
set_option maxRecDepth 100000 in
set_option maxHeartbeats 3200000 in
theorem rjoin_long (ao : Option Addr) (b off cap : Nat) (L : List Wd) (w : World) (h : WArg w ao b off L) (hL : L.length ≤ 24000) (hx : ∀ x ∈ L, x.2.1.length ≤ 40) :
    Calls Tryd.prog 37 #[.slice ao L.length cap] w (JoinPost L w) := by
  have HA := Lib.hid h
  have HX := Lib.hid hx
  obtain ⟨n, hn⟩ : ∃ n, L.length = n := ⟨_, rfl⟩
  have HN := Lib.hid hn
  rw [hn] at hL ⊢
  clear h hx hn
  go_enter Tryd.func37, Tryd.ntmps37
  go_wp2
  go_loopw [4, 5] (fun v i' wr => ∃ (i : Nat) (o : ByteArray), i' = .int .i64 i ∧ v = .string o ∧ i ≤ n ∧ Hid (joinF L [] = joinF (L.drop i) o.data.toList) ∧ Hid (Below w.heap.size w wr) ∧ o.size ≤ 41 * i) (fun _ i' _ => n - (intOf i').toNat)
  case atStart => exact ⟨0, ⟨#[]⟩, rfl, rfl, Nat.zero_le _, rfl, Below.refl _ _, Nat.le_refl _⟩
  case round =>
    obtain ⟨i, o, rfl, rfl, hi, HE, HB, hol⟩ := hrel
    by_cases hlt : i < n
    · have hlt' : i < L.length := by rw [HN.out]; exact hlt
      have ha := HA.out.below HB.out
      obtain ⟨rfl, hbl⟩ := ha.at_ (by omega)
      obtain ⟨c0, c1, c2, c3⟩ := ha.cells i hlt'
      have hd : L.drop i = L[i] :: L.drop (i + 1) := List.drop_eq_getElem_cons hlt'
      have hx := HX.out L[i] (List.getElem_mem hlt')
      obtain ⟨⟨k, l, m, p⟩, hxe⟩ : ∃ x, L[i] = x := ⟨_, rfl⟩
      rw [hxe] at c0 c1 c2 c3 hd hx
      simp only at c0 c1 c2 c3 hx
      have hsz : (⟨l.toArray⟩ : ByteArray).size = l.length := by rw [Lib.size_eq]
      have HTX := Lib.hid (fun W => rtext_any k ⟨l.toArray⟩ m p W (by rw [hsz]; omega))
      have hn2 := HE.out
      rw [hd, joinF_cons] at hn2
      have hle := HB.out.size
      obtain ⟨tx, htx⟩ : ∃ tx : ByteArray, ⟨l.toArray⟩ = tx := ⟨_, rfl⟩
      rw [htx] at c1 HTX
      have hlx : ∀ s, textR (k, l, m, p) = some s → s.length ≤ 40 := fun s hs => textR_len hs hx
      cases hs : textR (k, l, m, p) with
      | none =>
        have e : textA (k, l, m, p) = ([], 1) := by unfold textA; rw [hs]
        rw [hs] at hn2
        rw [show tx.data.toList = l by rw [← htx], e] at HTX
        have HJ := Lib.hid hn2
        clear e hs hn2 hd hxe hx hlx htx hsz ha hlt'
        go_wp2_with fail
        with_reducible refine (HTX.out _).mono ?_
        rintro e w2 ⟨rfl, hb2⟩
        have HB2 := Lib.hid hb2
        clear hb2
        go_wp2
        go_ret2
        exact join_none HJ.out (HB.out.trans (HB2.out.mono hle))
      | some s =>
        have e : textA (k, l, m, p) = (s, 0) := by unfold textA; rw [hs]
        rw [hs] at hn2
        rw [show tx.data.toList = l by rw [← htx], e] at HTX
        have HJ := Lib.hid hn2
        have h40 := hlx s hs
        have HD : Hid (∃ r : ByteArray, (⟨s.toArray⟩ : ByteArray) = r ∧ r.data.toList = s ∧ r.size = s.length) := ⟨_, rfl, rfl, by rw [Lib.size_eq]⟩
        obtain ⟨r, hr1, hr2, hr3⟩ := HD.out
        simp only at HTX
        rw [hr1] at HTX
        have hr4 : r.size ≤ 40 := by omega
        have HR2 := Lib.hid hr2
        clear e hs hn2 hd hxe hx hlx htx hsz ha hlt' HD hr1 hr2 hr3 h40
        have hadd : ∀ (a : ByteArray) W, a.size ≤ 990000 → (Op.stringOp .add a r).run Tryd.prog W = .ok (.string (a ++ r)) W := fun a W ha => run_string_add_sum W a r (by omega)
        by_cases hcond : o.data.toList ≠ [] ∧ r.data.toList ≠ [59]
        · have q1 : o.toList.isEmpty = false := by rw [Lib.toList_data]; simpa using hcond.1
          have q0 : ¬ o.toList = [] := by rw [Lib.toList_data]; exact hcond.1
          have q2 : (r.toList == [59]) = false := by rw [Lib.toList_data]; simpa using hcond.2
          have a1 : ∀ W, (Op.stringOp .add o ⟨#[32]⟩).run Tryd.prog W = .ok (.string (o ++ ⟨#[32]⟩)) W := fun W => run_string_add_sum W o _ (by have : (⟨#[32]⟩ : ByteArray).size = 1 := rfl; omega)
          have hz : (o ++ (⟨#[32]⟩ : ByteArray)).size = o.size + 1 := (ba_add _ _).2
          have a2 := fun W => hadd (o ++ ⟨#[32]⟩) W (by omega)
          have HP : Hid ((o ++ (⟨#[32]⟩ : ByteArray) ++ r).data.toList = addR o.data.toList s ∧ (o ++ (⟨#[32]⟩ : ByteArray) ++ r).size = o.size + 1 + r.size) := by
            constructor
            · rw [(ba_add _ _).1, (ba_add _ _).1]
              unfold addR
              rw [if_pos (by rw [← HR2.out]; exact hcond), HR2.out]
            · rw [(ba_add _ _).2, hz]
          obtain ⟨o1, ho1⟩ : ∃ o1, o ++ (⟨#[32]⟩ : ByteArray) = o1 := ⟨_, rfl⟩
          rw [ho1] at a1 a2 HP
          obtain ⟨o2, ho2⟩ : ∃ o2, o1 ++ r = o2 := ⟨_, rfl⟩
          rw [ho2] at a2 HP
          clear hcond hadd ho1 ho2 hz
          go_wp2_with fail
          with_reducible refine (HTX.out _).mono ?_
          rintro e w2 ⟨rfl, hb2⟩
          have HB2 := Lib.hid hb2
          clear hb2
          go_wp2
          go_roundw
          case rel => exact ⟨i + 1, o2, by go_num, rfl, by omega, by rw [HP.out.1]; exact HJ, HB.out.trans (HB2.out.mono hle), by have := HP.out.2; omega⟩
          case measure => simp [intOf]; omega
        · have hd : o.toList = [] ∨ (¬ o.toList = [] ∧ (r.toList == [59]) = true) := by
            rw [Lib.toList_data, Lib.toList_data]
            by_cases h0 : o.data.toList = []
            · exact .inl h0
            · right
              refine ⟨h0, ?_⟩
              have h59 : r.data.toList = [59] := Classical.byContradiction fun h => hcond ⟨h0, h⟩
              simp [h59]
          have a2 := fun W => hadd o W (by omega)
          have HP : Hid ((o ++ r).data.toList = addR o.data.toList s ∧ (o ++ r).size = o.size + r.size) := by
            constructor
            · rw [(ba_add _ _).1]
              unfold addR
              rw [if_neg (by rw [← HR2.out]; exact hcond), HR2.out]
            · exact (ba_add _ _).2
          obtain ⟨o2, ho2⟩ : ∃ o2, o ++ r = o2 := ⟨_, rfl⟩
          rw [ho2] at a2 HP
          clear hcond hadd ho2
          rcases hd with q0 | ⟨q0, q2⟩
          · have q1 : o.toList.isEmpty = true := by rw [q0]; rfl
            go_wp2_with fail
            with_reducible refine (HTX.out _).mono ?_
            rintro e w2 ⟨rfl, hb2⟩
            have HB2 := Lib.hid hb2
            clear hb2
            go_wp2
            go_roundw
            case rel => exact ⟨i + 1, o2, by go_num, rfl, by omega, by rw [HP.out.1]; exact HJ, HB.out.trans (HB2.out.mono hle), by have := HP.out.2; omega⟩
            case measure => simp [intOf]; omega
          · have q1 : o.toList.isEmpty = false := by simpa using q0
            go_wp2_with fail
            with_reducible refine (HTX.out _).mono ?_
            rintro e w2 ⟨rfl, hb2⟩
            have HB2 := Lib.hid hb2
            clear hb2
            go_wp2
            go_roundw
            case rel => exact ⟨i + 1, o2, by go_num, rfl, by omega, by rw [HP.out.1]; exact HJ, HB.out.trans (HB2.out.mono hle), by have := HP.out.2; omega⟩
            case measure => simp [intOf]; omega
    · obtain rfl : i = n := by omega
      have hE := HE.out
      rw [List.drop_eq_nil_of_le (by rw [HN.out]; exact Nat.le_refl _)] at hE
      have HJ := Lib.hid (show joinF L [] = some o.data.toList from hE)
      clear hE
      by_cases h8 : o.size ≤ 8000
      · go_wp2
        go_ret2
        have h := join_some HJ.out (by rw [← Lib.size_eq]; exact h8) HB.out
        rw [Lib.mk_data] at h
        exact h
      · have g8 : (8000 : Int) < o.size := by omega
        go_wp2
        go_ret2
        exact rjoin_over HJ.out (by rw [← Lib.size_eq]; omega) HB.out
theorem rjoin_any (ao : Option Addr) (b off cap : Nat) (L : List Wd) (w : World) (h : WArg w ao b off L) (hL : L.length ≤ 60) (hx : ∀ x ∈ L, x.2.1.length ≤ 40) :
    Calls Tryd.prog 37 #[.slice ao L.length cap] w (JoinPost L w) := rjoin_long ao b off cap L w h (by omega) hx
end Go.Proofs.YtmcfjlkjijaflaaDoor
