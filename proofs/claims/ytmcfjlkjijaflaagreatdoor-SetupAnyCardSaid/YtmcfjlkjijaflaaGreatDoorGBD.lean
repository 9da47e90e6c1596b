/-
  The document's one: letters, digits.
  The document's one: a mark, or none; all of it.
  The document's Scan. (Made by gen_ref.py.)
-/
import Derived.Test.YtmcfjlkjijaflaaGreatDoorGAC
import Derived.Deep.RegionWith
import Derived.Test.YtmcfjlkjijaflaaGreatDoorGAB

/- The document's one: letters, digits. -/
namespace Go.Proofs.YtmcfjlkjijaflaaGreatDoor
open Go.RowKit

set_option maxRecDepth 100000 in
set_option maxHeartbeats 1600000 in
theorem one_let (s : ByteArray) (p : Nat) (c : By) (t : List By) (w : World) (hp : p < s.size) (hs : s.size ≤ 140737488355328) (hd : s.data.toList.drop p = c :: t) (hl : isLet c = true) :
    Calls Tryz.prog 40 #[.string s, .int .i64 p] w fun e w' => e = .returned (.tuple #[wdV (oneR c t p).1, .int .i64 (p + 1 + (oneR c t p).2.1 : Nat), .bool (oneR c t p).2.2]) ∧ Below w.heap.size w w' := by
  have e : oneR c t p = ((1, c :: t.takeWhile isLet, 0, (p : Int)), (t.takeWhile isLet).length, decide ((t.takeWhile isLet).length < 12)) := by unfold oneR; rw [if_pos hl]
  rw [e]
  have h0 := byte_drop s p hp
  rw [hd] at h0
  obtain ⟨hc, _⟩ := List.cons.inj h0
  have HQ0 := Lib.hid (fun W => hl ▸ rlet_any c W)
  have HW : Hid ((s.data.toList.drop p).takeWhile isLet = c :: t.takeWhile isLet) := by
    unfold Hid
    rw [hd, List.takeWhile_cons, if_pos hl]
  have HL := Lib.hid (fun c W => rlet_any c W)
  obtain ⟨m, hm⟩ : ∃ m, (t.takeWhile isLet).length = m := ⟨_, rfl⟩
  have HM := Lib.hid hm
  have HR : Hid (wdV (1, c :: t.takeWhile isLet, 0, (p : Int)) = .agg #[.int .i64 1, .string (s.extract p (p + 1 + m)), .int .i64 0, .int .i64 p]) := by
    unfold Hid wdV
    rw [Lib.extract_eq, ← HM.out]
    have : (s.data.toList.drop p).take (p + 1 + (t.takeWhile isLet).length - p) = c :: t.takeWhile isLet := by
      rw [← HW.out, show p + 1 + (t.takeWhile isLet).length - p = ((s.data.toList.drop p).takeWhile isLet).length by rw [HW.out]; simp; omega]
      exact take_takeWhile _
    rw [this]
  rw [hm]
  simp only
  rw [HR.out]
  have hc' : s[p] = c := hc.symm
  obtain ⟨b, hb⟩ : ∃ b, decide (m < 12) = b := ⟨_, rfl⟩
  rw [hb]
  obtain ⟨T, hT⟩ : ∃ T, p + 1 + m = T := ⟨_, rfl⟩
  rw [hT]
  have HTT := Lib.hid hT
  clear hT
  have HBB := Lib.hid hb
  clear e h0 hd hl hm HR hb
  clear hc
  go_enter Tryz.func40, Tryz.ntmps40
  go_wp2_with fail
  with_reducible refine (HQ0.out _).mono ?_
  rintro e w1 ⟨rfl, rfl⟩
  clear hc'
  go_wp2_with fail
  go_loop [7] (fun e => ∃ k : Nat, p ≤ k ∧ k ≤ s.size ∧ e = .int .i64 k ∧ Hid (T = k + ((s.data.toList.drop k).takeWhile isLet).length)) (fun e => s.size - (intOf e).toNat)
  case atStart => exact ⟨p, Nat.le_refl _, by omega, rfl, by
    unfold Hid
    rw [HW.out, List.length_cons, HM.out, ← HTT.out]
    omega⟩
  case round =>
    obtain ⟨k, hpk, hk, rfl, HK⟩ := hrel
    by_cases hlt : k < s.size
    · have HD := Lib.hid (byte_drop s k hlt)
      have HQ := Lib.hid (fun W => HL.out (s[k]) W)
      obtain ⟨d, hd⟩ : ∃ d, s[k] = d := ⟨_, rfl⟩
      rw [hd] at HD HQ
      cases hq : isLet d with
      | true =>
        rw [hq] at HQ
        have HE := Lib.hid hq
        clear hq
        go_wp2_with fail
        with_reducible refine (HQ.out _).mono ?_
        rintro e w1 ⟨rfl, rfl⟩
        go_wp2
        go_round
        case rel => exact ⟨k + 1, by omega, by omega, by go_num, by
          have h := HK.out
          rw [HD.out, List.takeWhile_cons, if_pos HE.out, List.length_cons] at h
          unfold Hid
          omega⟩
        case measure => simp [intOf]; omega
      | false =>
        rw [hq] at HQ
        have HE := Lib.hid hq
        clear hq
        have hkm : T = k := by
          have h := HK.out
          rw [HD.out, List.takeWhile_cons, if_neg (by rw [HE.out]; decide)] at h
          simpa using h
        have d12 : decide ((k : Int) - (p : Int) ≤ 12) = b := by
          have := HTT.out
          rw [← HBB.out, Bool.eq_iff_iff]
          simp
          omega
        have HKM := Lib.hid hkm
        clear hkm
        go_wp2_with fail
        with_reducible refine (HQ.out _).mono ?_
        rintro e w1 ⟨rfl, rfl⟩
        go_wp2
        rw [HKM.out]
        exact bodyPost_ret (word_result2 rfl rfl rfl rfl (heap_alloc_new _ _)) rfl ⟨rfl, (Below.refl _ _).alloc (Nat.le_refl _) _⟩
    · have hkm : T = k := by
        have h := HK.out
        rw [drop_end s k (by omega)] at h
        simpa using h
      have d12 : decide ((k : Int) - (p : Int) ≤ 12) = b := by
        have := HTT.out
        rw [← HBB.out, Bool.eq_iff_iff]
        simp
        omega
      have HKM := Lib.hid hkm
      clear hkm
      go_wp2
      rw [HKM.out]
      exact bodyPost_ret (word_result2 rfl rfl rfl rfl (heap_alloc_new _ _)) rfl ⟨rfl, (Below.refl _ _).alloc (Nat.le_refl _) _⟩
/-- The digits so far. -/
theorem digs_next (s : ByteArray) (p k : Nat) (h : p ≤ k) (hk : k < s.size) : (s.data.toList.drop p).take (k + 1 - p) = (s.data.toList.drop p).take (k - p) ++ [s[k]] := by
  have hl : k - p < (s.data.toList.drop p).length := by rw [List.length_drop, ← Lib.size_eq]; omega
  rw [show k + 1 - p = k - p + 1 by omega, List.take_succ_eq_append_getElem hl, List.getElem_drop]
  congr 2
  simp only [show p + (k - p) = k by omega]
  rfl
theorem num_next (l : List By) (d : By) : numR ((l ++ [d]).take 9) = if l.length < 9 then numR (l.take 9) * 10 + (d.toNat - 48) else numR (l.take 9) := by
  by_cases h : l.length < 9
  · rw [if_pos h, List.take_of_length_le (by simp; omega), numR_snoc, List.take_of_length_le (by omega)]
  · rw [if_neg h, List.take_append_of_le_length (by omega)]
theorem num_nine (l : List By) (h : ∀ c ∈ l, isDig c = true) : numR (l.take 9) < 1000000000 := by
  have := num_bound (l.take 9) (fun c hc => h c (List.mem_of_mem_take hc))
  have h9 : (l.take 9).length ≤ 9 := List.length_take_le _ _
  exact Nat.lt_of_lt_of_le this (Nat.le_trans (Nat.pow_le_pow_right (by decide) h9) (by decide))
set_option maxRecDepth 100000 in
set_option maxHeartbeats 3200000 in
theorem one_dig (s : ByteArray) (p : Nat) (c : By) (t : List By) (w : World) (hp : p < s.size) (hs : s.size ≤ 140737488355328) (hd : s.data.toList.drop p = c :: t) (hl : isLet c = false) (hg : isDig c = true) :
    Calls Tryz.prog 40 #[.string s, .int .i64 p] w fun e w' => e = .returned (.tuple #[wdV (oneR c t p).1, .int .i64 (p + 1 + (oneR c t p).2.1 : Nat), .bool (oneR c t p).2.2]) ∧ Below w.heap.size w w' := by
  have e : oneR c t p = ((2, [], ((numR ((c :: t.takeWhile isDig).take 9) : Nat) : Int), (p : Int)), (t.takeWhile isDig).length, decide ((t.takeWhile isDig).length < 9) && (!decide (c.toNat = 48) || decide ((t.takeWhile isDig).length = 0))) := by unfold oneR; rw [if_neg (by simp [hl]), if_pos hg]
  rw [e]
  have h0 := byte_drop s p hp
  rw [hd] at h0
  obtain ⟨hc, _⟩ := List.cons.inj h0
  have HQ0 := Lib.hid (fun W => hl ▸ rlet_any c W)
  have HQ1 := Lib.hid (fun W => hg ▸ rdig_any c W)
  have HW : Hid ((s.data.toList.drop p).takeWhile isDig = c :: t.takeWhile isDig) := by
    unfold Hid
    rw [hd, List.takeWhile_cons, if_pos hg]
  have HL := Lib.hid (fun c W => rdig_any c W)
  obtain ⟨m, hm⟩ : ∃ m, (t.takeWhile isDig).length = m := ⟨_, rfl⟩
  have HM := Lib.hid hm
  have HV : Hid (numR ((c :: t.takeWhile isDig).take 9) = numR (((s.data.toList.drop p).take (p + 1 + m - p)).take 9)) := by
    unfold Hid
    rw [← HW.out, ← HM.out, show p + 1 + (t.takeWhile isDig).length - p = ((s.data.toList.drop p).takeWhile isDig).length by rw [HW.out]; simp; omega, take_takeWhile]
  rw [hm]
  unfold wdV
  simp only
  rw [HV.out]
  obtain ⟨T, hT⟩ : ∃ T, p + 1 + m = T := ⟨_, rfl⟩
  rw [hT]
  have HTT := Lib.hid hT
  clear hT
  have hc' : s[p] = c := hc.symm
  have HC := Lib.hid hc'
  clear e h0 hd hl hg hm hc
  go_enter Tryz.func40, Tryz.ntmps40
  go_wp2_with fail
  with_reducible refine (HQ0.out _).mono ?_
  rintro e w1 ⟨rfl, rfl⟩
  go_wp2_with fail
  with_reducible refine (HQ1.out _).mono ?_
  rintro e w1 ⟨rfl, rfl⟩
  clear hc'
  go_wp2_with fail
  go_loop [7, 8] (fun e n => ∃ k : Nat, p ≤ k ∧ k ≤ s.size ∧ e = .int .i64 k ∧ n = .int .i64 (numR (((s.data.toList.drop p).take (k - p)).take 9) : Nat) ∧ Hid (T = k + ((s.data.toList.drop k).takeWhile isDig).length) ∧ Hid (∀ c ∈ (s.data.toList.drop p).take (k - p), isDig c = true)) (fun e _ => s.size - (intOf e).toNat)
  case atStart => exact ⟨p, Nat.le_refl _, by omega, rfl, by rw [Nat.sub_self]; rfl, by
    unfold Hid
    rw [HW.out, List.length_cons, HM.out, ← HTT.out]
    omega, by unfold Hid; rw [Nat.sub_self]; simp⟩
  case round =>
    obtain ⟨k, hpk, hk, rfl, rfl, HK, HA⟩ := hrel
    have hv9 := num_nine _ HA.out
    have hlen : ((s.data.toList.drop p).take (k - p)).length = k - p := by rw [List.length_take, List.length_drop, ← Lib.size_eq]; omega
    by_cases hlt : k < s.size
    · have HD := Lib.hid (byte_drop s k hlt)
      have hnx := digs_next s p k hpk hlt
      have HQ := Lib.hid (fun W => HL.out (s[k]) W)
      obtain ⟨d, hd⟩ : ∃ d, s[k] = d := ⟨_, rfl⟩
      rw [hd] at HD HQ hnx
      cases hq : isDig d with
      | true =>
        rw [hq] at HQ
        have HE := Lib.hid hq
        have hd48 : 48 ≤ d.toNat ∧ d.toNat ≤ 57 := by simp [isDig] at hq; omega
        have HNX := Lib.hid (hnx ▸ num_next ((s.data.toList.drop p).take (k - p)) d)
        have HA2 : Hid (∀ c ∈ (s.data.toList.drop p).take (k + 1 - p), isDig c = true) := by
          unfold Hid
          rw [hnx]
          intro x hx
          rcases List.mem_append.1 hx with hx | hx
          · exact HA.out x hx
          · rw [List.mem_singleton.1 hx]; exact hq
        rw [hlen] at HNX
        obtain ⟨v, hv⟩ : ∃ v, numR (((s.data.toList.drop p).take (k - p)).take 9) = v := ⟨_, rfl⟩
        rw [hv] at HNX hv9 ⊢
        have hd1 := hd48.1
        have hd2 := hd48.2
        have HK2 : Hid (T = k + 1 + ((s.data.toList.drop (k + 1)).takeWhile isDig).length) := by
          have h := HK.out
          rw [HD.out, List.takeWhile_cons, if_pos HE.out, List.length_cons] at h
          unfold Hid
          omega
        clear hq hnx hlen hv hd48
        by_cases h9 : k - p < 9
        · have d9 : decide ((k : Int) - (p : Int) < 9) = true := by simp; omega
          have HN := HNX.out
          rw [if_pos h9] at HN
          have HN2 := Lib.hid HN
          clear h9 HN
          go_wp2_with fail
          with_reducible refine (HQ.out _).mono ?_
          rintro e w1 ⟨rfl, rfl⟩
          go_wp2
          go_round
          case rel => exact ⟨k + 1, by omega, by omega, by go_num, by rw [HN2.out]; congr 1; omega, HK2, HA2⟩
          case measure => simp [intOf]; omega
        · have d9 : decide ((k : Int) - (p : Int) < 9) = false := by simp; omega
          have HN := HNX.out
          rw [if_neg h9] at HN
          have HN2 := Lib.hid HN
          clear h9 HN
          go_wp2_with fail
          with_reducible refine (HQ.out _).mono ?_
          rintro e w1 ⟨rfl, rfl⟩
          go_wp2
          go_round
          case rel => exact ⟨k + 1, by omega, by omega, by go_num, by rw [HN2.out], HK2, HA2⟩
          case measure => simp [intOf]; omega
      | false =>
        rw [hq] at HQ
        have HE := Lib.hid hq
        clear hq hnx hlen
        have hkm : T = k := by
          have h := HK.out
          rw [HD.out, List.takeWhile_cons, if_neg (by rw [HE.out]; decide)] at h
          simpa using h
        have HKM := Lib.hid hkm
        have e1 : decide ((k : Int) - (p : Int) ≤ 9) = decide (m < 9) := by
          have := HTT.out
          rw [Bool.eq_iff_iff]
          simp
          omega
        have e2 : ((k : Int) == (p : Int) + 1) = decide (m = 0) := by
          have := HTT.out
          rw [Bool.eq_iff_iff]
          simp
          omega
        have e3 : ((c.toNat : Int) != 48) = !decide (c.toNat = 48) := neb c 48
        have hc' := HC.out
        clear hkm
        obtain ⟨v, hv⟩ : ∃ v, numR (((s.data.toList.drop p).take (k - p)).take 9) = v := ⟨_, rfl⟩
        rw [hv]
        have HHV := Lib.hid hv
        clear hv
        cases hb1 : decide (m < 9) <;> cases hb2 : decide (m = 0) <;> cases hb3 : decide (c.toNat = 48)
        all_goals
          have HB1 := Lib.hid hb1
          have HB2 := Lib.hid hb2
          have HB3 := Lib.hid hb3
          rw [hb1] at e1
          rw [hb2] at e2
          rw [hb3] at e3
          clear hb1 hb2 hb3
          go_wp2_with fail
          with_reducible refine (HQ.out _).mono ?_
          rintro e w1 ⟨rfl, rfl⟩
          go_wp2
          rw [HKM.out, HHV.out, HB1.out, HB2.out, HB3.out]
          exact bodyPost_ret (word_result2 rfl rfl rfl rfl (heap_alloc_new _ _)) rfl ⟨rfl, (Below.refl _ _).alloc (Nat.le_refl _) _⟩
    · have hkm : T = k := by
        have h := HK.out
        rw [drop_end s k (by omega)] at h
        simpa using h
      have HKM := Lib.hid hkm
      have e1 : decide ((k : Int) - (p : Int) ≤ 9) = decide (m < 9) := by
        have := HTT.out
        rw [Bool.eq_iff_iff]
        simp
        omega
      have e2 : ((k : Int) == (p : Int) + 1) = decide (m = 0) := by
        have := HTT.out
        rw [Bool.eq_iff_iff]
        simp
        omega
      have e3 : ((c.toNat : Int) != 48) = !decide (c.toNat = 48) := neb c 48
      have hc' := HC.out
      clear hkm
      obtain ⟨v, hv⟩ : ∃ v, numR (((s.data.toList.drop p).take (k - p)).take 9) = v := ⟨_, rfl⟩
      rw [hv]
      have HHV := Lib.hid hv
      clear hv
      cases hb1 : decide (m < 9) <;> cases hb2 : decide (m = 0) <;> cases hb3 : decide (c.toNat = 48)
      all_goals
        have HB1 := Lib.hid hb1
        have HB2 := Lib.hid hb2
        have HB3 := Lib.hid hb3
        rw [hb1] at e1
        rw [hb2] at e2
        rw [hb3] at e3
        clear hb1 hb2 hb3
        go_wp2
        rw [HKM.out, HHV.out, HB1.out, HB2.out, HB3.out]
        exact bodyPost_ret (word_result2 rfl rfl rfl rfl (heap_alloc_new _ _)) rfl ⟨rfl, (Below.refl _ _).alloc (Nat.le_refl _) _⟩
end Go.Proofs.YtmcfjlkjijaflaaGreatDoor

/- The document's one: a mark, or none; all of it. -/
namespace Go.Proofs.YtmcfjlkjijaflaaGreatDoor
open Go.RowKit

set_option maxRecDepth 100000 in
set_option maxHeartbeats 1600000 in
theorem one_mark (s : ByteArray) (p : Nat) (c : By) (t : List By) (w : World) (hp : p < s.size) (hs : s.size ≤ 140737488355328) (hd : s.data.toList.drop p = c :: t) (hl : isLet c = false) (hg : isDig c = false) :
    Calls Tryz.prog 40 #[.string s, .int .i64 p] w fun e w' => e = .returned (.tuple #[wdV (oneR c t p).1, .int .i64 (p + 1 + (oneR c t p).2.1 : Nat), .bool (oneR c t p).2.2]) ∧ Below w.heap.size w w' := by
  have e : oneR c t p = ((3, [c], 0, (p : Int)), 0, isMk c) := by unfold oneR; rw [if_neg (by simp [hl]), if_neg (by simp [hg])]
  rw [e]
  have h0 := byte_drop s p hp
  rw [hd] at h0
  obtain ⟨hc, _⟩ := List.cons.inj h0
  have HQ0 := Lib.hid (fun W => hl ▸ rlet_any c W)
  have HQ1 := Lib.hid (fun W => hg ▸ rdig_any c W)
  have hx : (⟨[c].toArray⟩ : ByteArray) = s.extract p (p + 1) := by
    rw [Lib.extract_eq, hd, show p + 1 - p = 1 by omega]
    rfl
  unfold wdV
  simp only
  rw [hx, Nat.add_zero, Int.natCast_add p 1]
  obtain ⟨b, hb⟩ : ∃ b, isMk c = b := ⟨_, rfl⟩
  have HQ2 := Lib.hid (fun W => hb ▸ rmk_any c W)
  rw [hb]
  have hc' : s[p] = c := hc.symm
  have hp1 : p + 1 ≤ s.size := hp
  obtain ⟨x, hxx⟩ : ∃ x, s.extract p (p + 1) = x := ⟨_, rfl⟩
  rw [hxx]
  have hw : IntKind.i64.wrap ((p : Int) + 1) = (p : Int) + 1 := IntWalk.i64_in _ (by omega)
  have hsl : ∀ W, (Instr.slice 9 (.string s) (some (.int .i64 (p : Int))) (some (.int .i64 ((p : Int) + 1))) none).run Tryz.prog W = .ok (.string x) W := fun W => by
    rw [run_slice_string W 9 s .i64 .i64 (p : Int) ((p : Int) + 1) Tryz.underlying9 (by omega) (by omega) (by omega)]
    rw [show ((p : Int) + 1).toNat = p + 1 by omega, Int.toNat_natCast, hxx]
  clear e h0 hd hl hg hb hx hc hxx
  go_enter Tryz.func40, Tryz.ntmps40
  go_wp2_with fail
  with_reducible refine (HQ0.out _).mono ?_
  rintro e w1 ⟨rfl, rfl⟩
  go_wp2_with fail
  with_reducible refine (HQ1.out _).mono ?_
  rintro e w1 ⟨rfl, rfl⟩
  go_wp2_with fail
  go_region_with ((go_at_call 85; with_reducible refine (HQ2.out _).mono ?_; rintro e w1 ⟨rfl, rfl⟩))
  simp only [List.getElem_toArray, List.getElem_cons_succ, List.getElem_cons_zero, Act.put, List.setIfInBounds_toArray]
  simp only [List.set_cons_succ, List.set_cons_zero]
  go_wp2
  exact bodyPost_ret (word_result2 rfl rfl rfl rfl (heap_alloc_new w _)) rfl ⟨rfl, ((Below.refl _ _).alloc (Nat.le_refl _) _).drew⟩
/-- The word that begins at a place. -/
theorem one_any (s : ByteArray) (p : Nat) (c : By) (t : List By) (w : World) (hp : p < s.size) (hs : s.size ≤ 140737488355328) (hd : s.data.toList.drop p = c :: t) :
    Calls Tryz.prog 40 #[.string s, .int .i64 p] w fun e w' => e = .returned (.tuple #[wdV (oneR c t p).1, .int .i64 (p + 1 + (oneR c t p).2.1 : Nat), .bool (oneR c t p).2.2]) ∧ Below w.heap.size w w' := by
  cases hl : isLet c with
  | true => exact one_let s p c t w hp hs hd hl
  | false =>
    cases hg : isDig c with
    | true => exact one_dig s p c t w hp hs hd hl hg
    | false => exact one_mark s p c t w hp hs hd hl hg
end Go.Proofs.YtmcfjlkjijaflaaGreatDoor

/- The document's Scan. (Made by gen_ref.py.) -/
namespace Go.Proofs.YtmcfjlkjijaflaaGreatDoor
open Go.RowKit

set_option maxHeartbeats 400000 in
theorem rscan_long (s : ByteArray) (w : World) (h : 8000 < s.size) : Calls Tryz.prog 18 #[.string s] w (ScanPost s.data.toList w) := by
  have e : scanA s.data.toList = ([], 8000, 6) := by unfold scanA; rw [if_pos (by rw [← Lib.size_eq]; exact h)]
  unfold ScanPost
  rw [e]
  go_enter Tryz.func18, Tryz.ntmps18
  go_wp2
  go_ret3
  exact ⟨_, rfl, World.ownsRow_nil _ _ _ _, Below.refl _ _⟩

set_option maxRecDepth 100000 in
set_option maxHeartbeats 6400000 in
theorem rscan_short (s : ByteArray) (w : World) (hs : s.size ≤ 8000) : Calls Tryz.prog 18 #[.string s] w (ScanPost s.data.toList w) := by
  have hA : (∀ ws, scanR s.data.toList 0 false = .ok ws → scanA s.data.toList = (ws, 0, 0)) ∧ ∀ p : Nat, scanR s.data.toList 0 false = .error p → scanA s.data.toList = ([], (p : Int), 5) := by
    have h : ¬ 8000 < s.data.toList.length := by rw [← Lib.size_eq]; omega
    constructor <;> (intro x hx; unfold scanA; rw [if_neg h, hx])
  have HA := Lib.hid hA
  clear hA
  obtain ⟨i0, hi0, hz0, hz1, hz2⟩ := info_parts word_info
  have HSZ := Lib.hid (Lib.size_eq s)
  have H0 := Lib.hid (RefSt.start s.data.toList)
  have d0 : decide ((8000 : Int) < (s.size : Int)) = false := by simp; omega
  go_enter Tryz.func18, Tryz.ntmps18
  go_wp2
  go_loopw [5, 6, 7] (fun l q' k' wr => ∃ (k : Nat) (q : Int) (ws : List Wd), q' = .int .i64 q ∧ k' = .int .i64 k ∧ k ≤ s.size ∧ Hid (RefSt s.data.toList k q ws) ∧ Hid (WRow w.heap.size wr l ws) ∧ Hid (Below w.heap.size w wr)) (fun _ _ k' _ => s.size - (intOf k').toNat)
  case atStart => exact ⟨0, -1, [], rfl, rfl, Nat.zero_le _, H0, World.ownsRow_nil _ _ _ _, Below.refl _ _⟩
  case round =>
    obtain ⟨k, q, ws, rfl, rfl, hk, HST, HO, HB⟩ := hrel
    rename World => wo
    have hqk := HST.out.qk
    have hwl := HST.out.len
    by_cases hlt : k < s.size
    · have hd := byte_drop s k hlt
      obtain ⟨c, hc⟩ : ∃ c, s[k] = c := ⟨_, rfl⟩
      rw [hc] at hd
      obtain ⟨t, ht⟩ : ∃ t, s.data.toList.drop (k + 1) = t := ⟨_, rfl⟩
      rw [ht] at hd
      have HD := Lib.hid hd
      have HTT := Lib.hid ht
      clear hd ht
      have e32 : ((c.toNat : Int) == 32) = decide (c.toNat = 32) := eqb c 32
      have e9 : ((c.toNat : Int) == 9) = decide (c.toNat = 9) := eqb c 9
      have e10 : ((c.toNat : Int) == 10) = decide (c.toNat = 10) := eqb c 10
      have e35 : ((c.toNat : Int) == 35) = decide (c.toNat = 35) := eqb c 35
      have HBL : Hid (isBl c = (decide (c.toNat = 32) || (decide (c.toNat = 9) || decide (c.toNat = 10)))) := rfl
      cases h32 : decide (c.toNat = 32) with
      | true =>
        rw [h32] at e32
        have HX := Lib.hid (HST.out.blank HD.out (by rw [HBL.out, h32]; rfl))
        clear h32 e9 e10 e35
        go_wp2
        go_roundw
        case rel => exact ⟨k + 1, q, ws, rfl, by go_num, by omega, HX, HO, HB⟩
        case measure => simp [intOf]; omega
      | false =>
        rw [h32] at e32
        cases h9 : decide (c.toNat = 9) with
        | true =>
          rw [h9] at e9
          have HX := Lib.hid (HST.out.blank HD.out (by rw [HBL.out, h9, Bool.true_or, Bool.or_true]))
          clear h32 h9 e10 e35
          go_wp2
          go_roundw
          case rel => exact ⟨k + 1, q, ws, rfl, by go_num, by omega, HX, HO, HB⟩
          case measure => simp [intOf]; omega
        | false =>
          rw [h9] at e9
          cases h10 : decide (c.toNat = 10) with
          | true =>
            rw [h10] at e10
            have HX := Lib.hid (HST.out.blank HD.out (by rw [HBL.out, h10, Bool.or_true, Bool.or_true]))
            clear h32 h9 h10 e35
            go_wp2
            go_roundw
            case rel => exact ⟨k + 1, q, ws, rfl, by go_num, by omega, HX, HO, HB⟩
            case measure => simp [intOf]; omega
          | false =>
            rw [h10] at e10
            have HNB := Lib.hid (show isBl c = false by rw [HBL.out, h32, h9, h10]; rfl)
            have HN10 := Lib.hid (show not10 c = true by unfold not10; rw [h10]; rfl)
            cases h35 : decide (c.toNat = 35) with
            | true =>
              rw [h35] at e35
              have HC35 := Lib.hid (of_decide_eq_true h35)
              clear h32 h9 h10 h35
              obtain ⟨T, hT⟩ : ∃ T, T = k + 1 + (t.takeWhile not10).length := ⟨_, rfl⟩
              have HX := Lib.hid (HST.out.remark HD.out HNB.out HC35.out hT)
              have HTL := Lib.hid hT
              have HKT : Hid (T = k + ((s.data.toList.drop k).takeWhile not10).length) := by
                unfold Hid
                rw [HD.out, List.takeWhile_cons, if_pos HN10.out, List.length_cons, HTL.out]
                omega
              have hkT : k + 1 ≤ T := by omega
              clear hT
              go_wp2_with fail
              clear hc e32 e9 e10 e35
              go_loop [7] (fun a => ∃ j : Nat, k ≤ j ∧ j ≤ s.size ∧ a = .int .i64 j ∧ Hid (T = j + ((s.data.toList.drop j).takeWhile not10).length)) (fun a => s.size - (intOf a).toNat)
              case atStart => exact ⟨k, Nat.le_refl _, hk, rfl, HKT⟩
              case round =>
                obtain ⟨j, hkj, hj, rfl, HJ⟩ := hrel
                by_cases hjl : j < s.size
                · have HDJ := Lib.hid (byte_drop s j hjl)
                  obtain ⟨d, hd⟩ : ∃ d, s[j] = d := ⟨_, rfl⟩
                  rw [hd] at HDJ
                  have n10 : ((d.toNat : Int) != 10) = not10 d := neb d 10
                  cases hq : not10 d with
                  | true =>
                    rw [hq] at n10
                    have HE := Lib.hid hq
                    clear hq
                    go_wp2
                    go_round
                    case rel => exact ⟨j + 1, by omega, by omega, by go_num, by
                      have h := HJ.out
                      rw [HDJ.out, List.takeWhile_cons, if_pos HE.out, List.length_cons] at h
                      unfold Hid
                      omega⟩
                    case measure => simp [intOf]; omega
                  | false =>
                    rw [hq] at n10
                    have HE := Lib.hid hq
                    clear hq
                    have hjT : T = j := by
                      have h := HJ.out
                      rw [HDJ.out, List.takeWhile_cons, if_neg (by rw [HE.out]; decide)] at h
                      simpa using h
                    have HJT := Lib.hid hjT
                    clear hjT
                    go_wp2
                    go_roundw
                    case rel => exact ⟨j, q, ws, rfl, rfl, hj, HJT.out ▸ HX, HO, HB⟩
                    case measure =>
                      have := HJT.out
                      simp [intOf]
                      omega
                · have hjT : T = j := by
                    have h := HJ.out
                    rw [drop_end s j (by omega)] at h
                    simpa using h
                  have HJT := Lib.hid hjT
                  clear hjT
                  go_wp2
                  go_roundw
                  case rel => exact ⟨j, q, ws, rfl, rfl, hj, HJT.out ▸ HX, HO, HB⟩
                  case measure =>
                    have := HJT.out
                    simp [intOf]
                    omega
            | false =>
              rw [h35] at e35
              have HC35 := Lib.hid (of_decide_eq_false h35)
              clear h32 h9 h10 h35
              have HC := Lib.hid (fun W => one_any s k c t W hlt (by omega) HD.out)
              obtain ⟨⟨⟨a, b, cc, d⟩, m, ok⟩, hx⟩ : ∃ x, oneR c t k = x := ⟨_, rfl⟩
              rw [hx] at HC
              simp only [wdV] at HC
              have HXX := Lib.hid hx
              obtain ⟨tx, htx⟩ : ∃ tx : ByteArray, ⟨b.toArray⟩ = tx := ⟨_, rfl⟩
              rw [htx] at HC
              have HTX := Lib.hid htx
              obtain ⟨T, hT⟩ : ∃ T, k + 1 + m = T := ⟨_, rfl⟩
              rw [hT] at HC
              have HTE := Lib.hid hT
              clear hx htx hT
              have hle := HB.out.size
              cases ok with
              | false =>
                have HBAD := Lib.hid (HST.out.bad HD.out HNB.out HC35.out HXX.out rfl)
                go_wp2_with fail
                with_reducible refine (HC.out _).mono ?_
                rintro e w2 ⟨rfl, hb2⟩
                have HB2 := Lib.hid hb2
                have hsz2 := hb2.size
                clear hb2
                go_wp2
                go_ret3
                exact post_err (HA.out.2 k HBAD.out) ((HB.out.trans (HB2.out.mono hle)).alloc (by omega) _)
              | true =>
                by_cases hqk2 : q = (k : Int)
                · have d2 : (q == (k : Int)) = true := by simp [hqk2]
                  have hne := HST.out.has (by omega)
                  have HQK := Lib.hid (decide_eq_true hqk2)
                  clear hqk2
                  have HWS : Hid (∃ (N : Nat) (y : Wd), ws.length = N + 1 ∧ lastB ws = !decide (y.1 = 3) ∧ ∃ h : N < ws.length, ws[N] = y) := by
                    unfold Hid
                    rcases List.eq_nil_or_concat ws with h | ⟨ys, y, h⟩
                    · exact absurd h hne
                    · rw [List.concat_eq_append] at h
                      subst h
                      exact ⟨ys.length, y, by simp, lastB_snoc ys y, by simp, List.getElem_concat_length rfl _⟩
                  obtain ⟨N, y, hN, hlast, hNl, hy⟩ := HWS.out
                  clear hne HWS
                  obtain ⟨g, cap, rfl, _, _⟩ := ownsRow_pos HO.out (by omega)
                  have hg := (HO.out.lt g (by simp [Value.ownBlock])).2
                  have hce := (row_word HO.out N hNl).1
                  rw [hy] at hce
                  obtain ⟨r, hr⟩ : ∃ r, y.1 = r := ⟨_, rfl⟩
                  rw [hr] at hce hlast
                  have HLB := Lib.hid hlast
                  have HLEN := Lib.hid hN
                  have HO' : Hid (wo.ownsRow w.heap.size 72 4 (.slice (some ⟨g, 0, none⟩) (N + 1) cap) (N + 1) (wdsC ws)) := by
                    have h : wo.ownsRow w.heap.size 72 4 (.slice (some ⟨g, 0, none⟩) ws.length cap) ws.length (wdsC ws) := HO.out
                    rw [hN] at h
                    exact h
                  rw [hN] at hwl ⊢
                  clear HO hr hy hlast hN hNl
                  have HO := HO'
                  clear HO'
                  have ea : (a != 3) = !decide (a = 3) := ne3 a
                  have er : (r != 3) = !decide (r = 3) := ne3 r
                  cases ha : decide (a = 3) with
                  | true =>
                    rw [ha] at ea
                    have HNX := Lib.hid (HST.out.next HD.out HNB.out HC35.out HXX.out (by rw [ha]; simp))
                    clear ha er
                    go_wp2_with fail
                    with_reducible refine (HC.out _).mono ?_
                    rintro e w2 ⟨rfl, hb2⟩
                    have HB2 := Lib.hid hb2
                    have hsz2 := hb2.size
                    clear hb2
                    go_wp2_with (at_builtin; refine wpList_append_own _ rfl _ _ 34 rfl w.heap.size 72 i0 (.agg #[.int .i64 0, .string ⟨#[]⟩, .int .i64 0, .int .i64 0]) 4 40 Tryz.underlying34 hi0 hz0 hz1 hz2 rfl (by decide) _ _ _ rfl (row_below HO.out ((HB2.out.alloc (by omega) _).alloc (by simp; omega) _)) ⟨_, 0, none⟩ 1 1 [.int .i64 a, .string tx, .int .i64 cc, .int .i64 d] rfl rfl ?c1 ?c2 ?c3 ?c4 ?c5 ?_)
                    case c1 =>
                      intro j u hj
                      rw [Addr.add_lit]
                      match j, hj with
                      | 0, hj => simp at hj; subst hj; simp
                      | 1, hj => simp at hj; subst hj; simp
                      | 2, hj => simp at hj; subst hj; simp
                      | 3, hj => simp at hj; subst hj; simp
                    case c2 =>
                      intro u hu
                      simp at hu
                      rcases hu with rfl | rfl | rfl | rfl <;> rfl
                    case c3 => unfold maxLen; omega
                    case c4 => omega
                    case c5 => simp; omega
                    intro v' w4 hown2 hgrow _
                    obtain ⟨hle3, hst⟩ := HNX.out
                    have HO2 : Hid (WRow w.heap.size w4 v' (ws ++ [(a, b, cc, d)])) := by
                      unfold Hid WRow
                      rw [wdsC_snoc, List.length_append, List.length_singleton, HLEN.out]
                      have e : wdC (a, b, cc, d) = [.int .i64 a, .string tx, .int .i64 cc, .int .i64 d] := by rw [← HTX.out]; rfl
                      rw [e]
                      exact hown2
                    have HB4 := Lib.hid (app_below (HB.out.trans (((HB2.out.alloc (by omega) _).alloc (by simp; omega) _).mono HB.out.size)) (Nat.le_refl _) (Nat.le_refl _) HO.out hgrow)
                    rw [HTE.out] at hst hle3
                    rw [← HSZ.out] at hle3
                    have HST2 := Lib.hid hst
                    have hTk : k < T := by have := HTE.out; omega
                    clear hst hown2 hgrow
                    go_wp2
                    go_roundw
                    case rel => exact ⟨T, (T : Int), _, rfl, rfl, hle3, HST2, HO2, HB4⟩
                    case measure => simp [intOf]; omega
                  | false =>
                    rw [ha] at ea
                    cases hb : decide (r = 3) with
                    | true =>
                      rw [hb] at er
                      have HNX := Lib.hid (HST.out.next HD.out HNB.out HC35.out HXX.out (by rw [HLB.out, hb]; simp))
                      clear ha hb
                      go_wp2_with fail
                      with_reducible refine (HC.out _).mono ?_
                      rintro e w2 ⟨rfl, hb2⟩
                      have HB2 := Lib.hid hb2
                      have hsz2 := hb2.size
                      clear hb2
                      have hc4 := (HB2.out.cell (p := ⟨g, N * 4, none⟩) hg).trans hce
                      have hg2 : g < w2.heap.size := by omega
                      clear hce
                      go_wp2_with (at_builtin; refine wpList_append_own _ rfl _ _ 34 rfl w.heap.size 72 i0 (.agg #[.int .i64 0, .string ⟨#[]⟩, .int .i64 0, .int .i64 0]) 4 40 Tryz.underlying34 hi0 hz0 hz1 hz2 rfl (by decide) _ _ _ rfl (row_below HO.out ((HB2.out.alloc (by omega) _).alloc (by simp; omega) _)) ⟨_, 0, none⟩ 1 1 [.int .i64 a, .string tx, .int .i64 cc, .int .i64 d] rfl rfl ?e1 ?e2 ?e3 ?e4 ?e5 ?_)
                      case e1 =>
                        intro j u hj
                        rw [Addr.add_lit]
                        match j, hj with
                        | 0, hj => simp at hj; subst hj; simp
                        | 1, hj => simp at hj; subst hj; simp
                        | 2, hj => simp at hj; subst hj; simp
                        | 3, hj => simp at hj; subst hj; simp
                      case e2 =>
                        intro u hu
                        simp at hu
                        rcases hu with rfl | rfl | rfl | rfl <;> rfl
                      case e3 => unfold maxLen; omega
                      case e4 => omega
                      case e5 => simp; omega
                      intro v' w4 hown2 hgrow _
                      obtain ⟨hle3, hst⟩ := HNX.out
                      have HO2 : Hid (WRow w.heap.size w4 v' (ws ++ [(a, b, cc, d)])) := by
                        unfold Hid WRow
                        rw [wdsC_snoc, List.length_append, List.length_singleton, HLEN.out]
                        have e : wdC (a, b, cc, d) = [.int .i64 a, .string tx, .int .i64 cc, .int .i64 d] := by rw [← HTX.out]; rfl
                        rw [e]
                        exact hown2
                      have HB4 := Lib.hid (app_below (HB.out.trans (((HB2.out.alloc (by omega) _).alloc (by simp; omega) _).mono HB.out.size)) (Nat.le_refl _) (Nat.le_refl _) HO.out hgrow)
                      rw [HTE.out] at hst hle3
                      rw [← HSZ.out] at hle3
                      have HST2 := Lib.hid hst
                      have hTk : k < T := by have := HTE.out; omega
                      clear hst hown2 hgrow
                      go_wp2
                      go_roundw
                      case rel => exact ⟨T, (T : Int), _, rfl, rfl, hle3, HST2, HO2, HB4⟩
                      case measure => simp [intOf]; omega
                    | false =>
                      rw [hb] at er
                      have HBAD := Lib.hid (HST.out.bad HD.out HNB.out HC35.out HXX.out (by rw [HQK.out, HLB.out, hb, ha]; rfl))
                      clear ha hb
                      go_wp2_with fail
                      with_reducible refine (HC.out _).mono ?_
                      rintro e w2 ⟨rfl, hb2⟩
                      have HB2 := Lib.hid hb2
                      have hsz2 := hb2.size
                      clear hb2
                      have hc4 := (HB2.out.cell (p := ⟨g, N * 4, none⟩) hg).trans hce
                      have hg2 : g < w2.heap.size := by omega
                      clear hce
                      go_wp2
                      go_ret3
                      exact post_err (HA.out.2 k HBAD.out) ((HB.out.trans (HB2.out.mono hle)).alloc (by omega) _)
                · have d2 : (q == (k : Int)) = false := by simpa using hqk2
                  have HNX := Lib.hid (HST.out.next HD.out HNB.out HC35.out HXX.out (by rw [decide_eq_false hqk2, Bool.false_and]))
                  clear hqk2
                  go_wp2_with fail
                  with_reducible refine (HC.out _).mono ?_
                  rintro e w2 ⟨rfl, hb2⟩
                  have HB2 := Lib.hid hb2
                  have hsz2 := hb2.size
                  clear hb2
                  go_wp2_with (at_builtin; refine wpList_append_own _ rfl _ _ 34 rfl w.heap.size 72 i0 (.agg #[.int .i64 0, .string ⟨#[]⟩, .int .i64 0, .int .i64 0]) 4 40 Tryz.underlying34 hi0 hz0 hz1 hz2 rfl (by decide) _ _ _ rfl (row_below HO.out ((HB2.out.alloc (by omega) _).alloc (by simp; omega) _)) ⟨_, 0, none⟩ 1 1 [.int .i64 a, .string tx, .int .i64 cc, .int .i64 d] rfl rfl ?f1 ?f2 ?f3 ?f4 ?f5 ?_)
                  case f1 =>
                    intro j u hj
                    rw [Addr.add_lit]
                    match j, hj with
                    | 0, hj => simp at hj; subst hj; simp
                    | 1, hj => simp at hj; subst hj; simp
                    | 2, hj => simp at hj; subst hj; simp
                    | 3, hj => simp at hj; subst hj; simp
                  case f2 =>
                    intro u hu
                    simp at hu
                    rcases hu with rfl | rfl | rfl | rfl <;> rfl
                  case f3 => unfold maxLen; omega
                  case f4 => omega
                  case f5 => simp; omega
                  intro v' w4 hown2 hgrow _
                  obtain ⟨hle3, hst⟩ := HNX.out
                  have HO2 : Hid (WRow w.heap.size w4 v' (ws ++ [(a, b, cc, d)])) := by
                    unfold Hid WRow
                    rw [wdsC_snoc, List.length_append, List.length_singleton]
                    have e : wdC (a, b, cc, d) = [.int .i64 a, .string tx, .int .i64 cc, .int .i64 d] := by rw [← HTX.out]; rfl
                    rw [e]
                    exact hown2
                  have HB4 := Lib.hid (app_below (HB.out.trans (((HB2.out.alloc (by omega) _).alloc (by simp; omega) _).mono HB.out.size)) (Nat.le_refl _) (Nat.le_refl _) HO.out hgrow)
                  rw [HTE.out] at hst hle3
                  rw [← HSZ.out] at hle3
                  have HST2 := Lib.hid hst
                  have hTk : k < T := by have := HTE.out; omega
                  clear hst hown2 hgrow
                  go_wp2
                  go_roundw
                  case rel => exact ⟨T, (T : Int), _, rfl, rfl, hle3, HST2, HO2, HB4⟩
                  case measure => simp [intOf]; omega
    · have HLT := Lib.hid hlt
      go_wp2
      go_ret3
      exact post_ok (HA.out.1 _ (HST.out.done (by rw [← HSZ.out]; exact HLT.out))) HO.out HB.out

theorem rscan_any (s : ByteArray) (w : World) : Calls Tryz.prog 18 #[.string s] w (ScanPost s.data.toList w) := by
  by_cases h : 8000 < s.size
  · exact rscan_long s w h
  · exact rscan_short s w (by omega)
end Go.Proofs.YtmcfjlkjijaflaaGreatDoor
