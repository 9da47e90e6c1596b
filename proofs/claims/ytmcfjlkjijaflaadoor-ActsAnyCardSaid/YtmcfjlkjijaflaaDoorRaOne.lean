/-
  The document's One of acts: may an act be?
-/
import Derived.Test.YtmcfjlkjijaflaaDoorRaName
namespace Go.Proofs.YtmcfjlkjijaflaaDoor
open Go.RowKit

/-- The act's box. -/
structure RoB (w V : World) (a : Array Value) : Prop where
  act : V.heap[w.heap.size]? = some (.cells a 69 (0, 0))
  bel : Below w.heap.size w V
theorem RoB.below {w V V' : World} {a : Array Value} (h : RoB w V a) (hb : Below V.heap.size V V') : RoB w V' a :=
  ⟨(hb.block _ (lt_of_block h.act)).trans h.act, h.bel.trans (hb.mono h.bel.size)⟩
theorem ok_low {m x : Int} {j : Nat} (h : x < 0) : okA m x j = false := by
  unfold okA
  rw [decide_eq_false (by omega), Bool.false_and]
theorem ok_high {m x : Int} {j : Nat} (h : 999999999 < x) : okA m x j = false := by
  unfold okA mostA
  rw [Bool.and_eq_false_iff]
  right
  split <;> simp <;> omega
theorem ok_past {m x : Int} {j : Nat} (h : m ≤ (j : Int)) (hx : ¬ x = 0) : okA m x j = false := by
  unfold okA mostA
  rw [if_pos h]
  simp
  omega
theorem ok_in {m x : Int} {j : Nat} (h0 : 0 ≤ x) (h9 : x ≤ 999999999) (h : m ≤ (j : Int) → x = 0) : okA m x j = true := by
  unfold okA mostA
  by_cases hm : m ≤ (j : Int)
  · rw [if_pos hm, h hm]
    rfl
  · rw [if_neg hm, decide_eq_true h0, decide_eq_true h9]
    rfl
set_option maxRecDepth 100000 in
set_option maxHeartbeats 6400000 in
theorem raone_any (k x0 x1 x2 x3 : Int) (w : World) : Calls Tryd.prog 54 #[.agg #[.int .i64 k, .int .i64 x0, .int .i64 x1, .int .i64 x2, .int .i64 x3]] w fun e w' => e = .returned (.bool (acMay (k, x0, x1, x2, x3))) ∧ Below w.heap.size w w' := by
  have HYES := Lib.hid (fun h => acmay_yes (k := k) (x0 := x0) (x1 := x1) (x2 := x2) (x3 := x3) h)
  have HNO := Lib.hid (fun j (hj : j < 4) h => acmay_no (k := k) (x0 := x0) (x1 := x1) (x2 := x2) (x3 := x3) (j := j) hj h)
  have hn := acmay_ok k x0 x1 x2 x3
  obtain ⟨A, hA⟩ : ∃ A, acMay (k, x0, x1, x2, x3) = A := ⟨_, rfl⟩
  rw [hA] at HYES HNO hn ⊢
  have hnm := fun W => raname_any k W
  obtain ⟨s, hs⟩ : ∃ s : ByteArray, ⟨(acName k).toArray⟩ = s := ⟨_, rfl⟩
  simp only [hs] at hnm
  have hsl : s.toList = acName k := by rw [Lib.toList_data, ← hs]
  have HNM := Lib.hid hnm
  have HB0 : Hid (RoB w (w.alloc (.cells #[.int .i64 k, .int .i64 x0, .int .i64 x1, .int .i64 x2, .int .i64 x3] 69)) #[.int .i64 k, .int .i64 x0, .int .i64 x1, .int .i64 x2, .int .i64 x3]) := Lib.hid ⟨heap_alloc_new w _, (Below.refl _ w).alloc (Nat.le_refl _) _⟩
  by_cases he : acName k = []
  · have hse : s.toList = [] := hsl.trans he
    have q0 : (s.toList == []) = true := by rw [hse]; rfl
    have q1 : s.toList.isEmpty = true := by rw [hse]; rfl
    rw [he] at hn
    have HA := Lib.hid (show A = false by rw [hn]; simp)
    clear hn hA hnm hs hsl he
    go_enter Tryd.func54, Tryd.ntmps54
    go_wp2_with fail
    with_reducible refine (HNM.out _).mono ?_
    rintro e w1 ⟨rfl, hb⟩
    have HB1 := Lib.hid (HB0.out.below hb)
    clear hb
    go_wp2
    go_ret
    exact ⟨congrArg (fun x => Ending.returned (.bool x)) HA.out.symm, HB1.out.bel⟩
  · have hse : ¬ s.toList = [] := fun h => he (hsl.symm.trans h)
    have q0 : (s.toList == []) = false := by simpa using hse
    have q1 : s.toList.isEmpty = false := by simpa using hse
    have hk := ac_kinds he
    have hk8 : 1 ≤ k ∧ k ≤ 8 := by omega
    have hmy := fun W => ramany_any k hk8.1 hk8.2 W
    obtain ⟨m, hm⟩ : ∃ m : Nat, acMany k = m := ⟨_, rfl⟩
    rw [hm] at HYES HNO
    simp only [hm] at hmy
    rw [decide_eq_false he] at HYES
    have HMY := Lib.hid hmy
    have HGT := Lib.hid (fun (i : Nat) W => raget_any k x0 x1 x2 x3 i W)
    clear hn hA hnm hs hsl he hk hk8 hmy hm
    go_enter Tryd.func54, Tryd.ntmps54
    go_wp2_with fail
    with_reducible refine (HNM.out _).mono ?_
    rintro e w1 ⟨rfl, hb⟩
    have HB1 := Lib.hid (HB0.out.below hb)
    clear hb
    go_wp2_with fail
    go_loopw [3] (fun i' wr => ∃ i : Nat, i' = .int .i64 i ∧ i ≤ 4 ∧ Hid (RoB w wr #[.int .i64 k, .int .i64 x0, .int .i64 x1, .int .i64 x2, .int .i64 x3]) ∧ Hid (∀ j : Nat, j < i → okA (m : Nat) (xN x0 x1 x2 x3 j) j = true)) (fun i' _ => 4 - (intOf i').toNat)
    case atStart => exact ⟨0, rfl, by omega, HB1, fun j h => by omega⟩
    case round =>
      obtain ⟨i, rfl, hi, HB, HO⟩ := hrel
      by_cases hlt : i < 4
      · have hgt := fun W => HGT.out i W
        have hno := fun h => HNO.out i hlt h
        have hok : ∀ h : okA (m : Nat) (xN x0 x1 x2 x3 i) i = true, ∀ j : Nat, j < i + 1 → okA (m : Nat) (xN x0 x1 x2 x3 j) j = true := fun h j hj => by
          rcases Nat.lt_or_ge j i with h1 | h1
          · exact HO.out j h1
          · obtain rfl : j = i := by omega
            exact h
        obtain ⟨x, hx⟩ : ∃ x, xN x0 x1 x2 x3 i = x := ⟨_, rfl⟩
        rw [hx] at hno
        rw [hx] at hok
        simp only [hx] at hgt
        have HGI := Lib.hid hgt
        have HNI := Lib.hid hno
        have HOI := Lib.hid hok
        have i4 : (i : Int) < 4 := by omega
        have i2 : IntKind.i64.wrap ((i : Int) + 1) = (i : Int) + 1 := by rw [IntKind.wrap_i64]; omega
        obtain ⟨c0, c1, c2, c3, c4⟩ := act_cells HB.out.act
        clear hgt hno hok hx
        by_cases hlo : x < 0
        · have HA := Lib.hid (HNI.out (ok_low hlo))
          go_wp2_with fail
          with_reducible refine (HGI.out _).mono ?_
          rintro e w2 ⟨rfl, hb⟩
          have HB2 := Lib.hid (HB.out.below hb)
          clear hb
          go_wp2
          go_ret
          exact ⟨congrArg (fun x => Ending.returned (.bool x)) HA.out.symm, HB2.out.bel⟩
        · by_cases hhi : 999999999 < x
          · have HA := Lib.hid (HNI.out (ok_high hhi))
            go_wp2_with fail
            with_reducible refine (HGI.out _).mono ?_
            rintro e w2 ⟨rfl, hb⟩
            have HB2 := Lib.hid (HB.out.below hb)
            clear hb
            go_wp2
            go_ret
            exact ⟨congrArg (fun x => Ending.returned (.bool x)) HA.out.symm, HB2.out.bel⟩
          · by_cases him : m ≤ i
            · have him2 : (m : Int) ≤ i := by omega
              by_cases hz : x = 0
              · have HO2 := Lib.hid (HOI.out (ok_in (by omega) (by omega) (fun _ => hz)))
                subst hz
                clear hlo hhi
                go_wp2_with fail
                with_reducible refine (HGI.out _).mono ?_
                rintro e w2 ⟨rfl, hb⟩
                have HB2 := Lib.hid (HB.out.below hb)
                clear hb c0 c1 c2 c3 c4
                obtain ⟨c0, c1, c2, c3, c4⟩ := act_cells HB2.out.act
                go_wp2_with fail
                with_reducible refine (HMY.out _).mono ?_
                rintro e w3 ⟨rfl, hb⟩
                have HB3 := Lib.hid (HB2.out.below hb)
                clear hb
                go_wp2
                go_roundw
                case rel => exact ⟨i + 1, by go_num, by omega, HB3, HO2⟩
                case measure => simp [intOf]; omega
              · have HA := Lib.hid (HNI.out (ok_past him2 hz))
                have hzb : (x != 0) = true := by simpa using hz
                go_wp2_with fail
                with_reducible refine (HGI.out _).mono ?_
                rintro e w2 ⟨rfl, hb⟩
                have HB2 := Lib.hid (HB.out.below hb)
                clear hb c0 c1 c2 c3 c4
                obtain ⟨c0, c1, c2, c3, c4⟩ := act_cells HB2.out.act
                go_wp2_with fail
                with_reducible refine (HMY.out _).mono ?_
                rintro e w3 ⟨rfl, hb⟩
                have HB3 := Lib.hid (HB2.out.below hb)
                clear hb
                go_wp2
                go_ret
                exact ⟨congrArg (fun x => Ending.returned (.bool x)) HA.out.symm, HB3.out.bel⟩
            · have him2 : ¬ (m : Int) ≤ i := by omega
              have HO2 := Lib.hid (HOI.out (ok_in (by omega) (by omega) (fun h => absurd h him2)))
              go_wp2_with fail
              with_reducible refine (HGI.out _).mono ?_
              rintro e w2 ⟨rfl, hb⟩
              have HB2 := Lib.hid (HB.out.below hb)
              clear hb c0 c1 c2 c3 c4
              obtain ⟨c0, c1, c2, c3, c4⟩ := act_cells HB2.out.act
              go_wp2_with fail
              with_reducible refine (HMY.out _).mono ?_
              rintro e w3 ⟨rfl, hb⟩
              have HB3 := Lib.hid (HB2.out.below hb)
              clear hb
              go_wp2
              go_roundw
              case rel => exact ⟨i + 1, by go_num, by omega, HB3, HO2⟩
              case measure => simp [intOf]; omega
      · obtain rfl : i = 4 := by omega
        have HA := Lib.hid (HYES.out (fun j hj => HO.out j hj))
        go_wp2
        go_ret
        exact ⟨congrArg (fun x => Ending.returned (.bool x)) HA.out.symm, HB.out.bel⟩
end Go.Proofs.YtmcfjlkjijaflaaDoor
