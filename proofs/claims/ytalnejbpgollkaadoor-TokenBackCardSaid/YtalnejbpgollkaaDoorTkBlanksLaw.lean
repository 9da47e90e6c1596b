/-
  The law TokenBlanks.
-/
import Derived.Test.YtalnejbpgollkaaDoorTkAnyLaw
namespace Go.Proofs.YtalnejbpgollkaaDoor
open Go.RowKit

/-- What stands behind a word. -/
def gapR (rm : List By) : List By := [32, 10, 9, 35] ++ rm ++ [10, 32, 32]
theorem blanks_step {rm : List By} {x : Wd} {s : List By} (hs : textR x = some s) {ws : List Wd} {r : List By} (h : blanksR rm ws = some r) : blanksR rm (x :: ws) = some (s ++ gapR rm ++ r) := by
  simp only [blanksR, hs, h, gapR]
  simp
theorem scan_done {rm : List By} (h : ∀ c ∈ rm, not10 c = true) {L : List Wd} {r : List By} (hr : blanksR rm L = some r) (hl : rm.length + r.length ≤ 7000) : ∃ ws, scanA ([9, 35] ++ rm ++ [10] ++ r) = (ws, 0, 0) ∧ sameL ws L := by
  obtain ⟨ws, h1, h2⟩ := scan_between h hr
  refine ⟨ws, ?_, h2⟩
  unfold scanA
  rw [if_neg (by simp; omega)]
  have e : [9, 35] ++ rm ++ [10] ++ r = (9 : By) :: 35 :: (rm ++ 10 :: r) := by simp
  rw [e, h1]
theorem add_run (a b : ByteArray) (h : a.size + b.size ≤ 1000000) (W : World) : (Op.stringOp .add a b).run Tryd.prog W = .ok (.string (a ++ b)) W := run_string_add_sum W a b (by omega)

set_option maxRecDepth 100000 in
set_option maxHeartbeats 3200000 in
theorem blanks_walk (ao : Option Addr) (b off cap : Nat) (L : List Wd) (rm : ByteArray) (w : World) (h : WArg w ao b off L) (hm : L.length ≤ maxLen) (hx : ∀ x ∈ L, x.2.1.length ≤ 140737488355328) (hz : rm.size ≤ maxLen) (hT : TabOk w) :
    Calls Tryd.prog 5 #[.slice ao L.length cap, .string rm] w fun e w' => e = .returned (.bool true) ∧ Below w.heap.size w w' := by
  have HAW := Lib.hid (awake9 w hT)
  have HA := Lib.hid h
  have HX := Lib.hid hx
  obtain ⟨n, hn⟩ : ∃ n, L.length = n := ⟨_, rfl⟩
  have HN := Lib.hid hn
  rw [hn] at hm ⊢
  unfold maxLen at hm hz
  clear h hT hn hx
  by_cases h30 : n ≤ 30
  · by_cases h40 : rm.size ≤ 40
    · have d30 : decide ((30 : Int) < (n : Int)) = false := by simp; omega
      have d40 : decide ((40 : Int) < (rm.size : Int)) = false := by simp; omega
      go_enter Tryd.func5, Tryd.ntmps5
      go_wp2_with fail
      with_reducible refine HAW.out.mono ?_
      rintro e w1 ⟨rfl, hb1⟩
      have HB1 := Lib.hid hb1
      clear hb1
      go_wp2
      go_loop [26] (fun i' => ∃ i : Nat, i ≤ rm.size ∧ i' = .int .i64 i ∧ Hid (∀ j (hj : j < rm.size), j < i → not10 rm[j] = true)) (fun i' => rm.size - (intOf i').toNat)
      case atStart => exact ⟨0, Nat.zero_le _, rfl, fun j _ hj => by omega⟩
      case round =>
        obtain ⟨i, hi, rfl, HR⟩ := hrel
        by_cases hlt : i < rm.size
        · obtain ⟨c, hc⟩ : ∃ c, rm[i] = c := ⟨_, rfl⟩
          have HC := Lib.hid hc
          have e10 : ((c.toNat : Int) == 10) = decide (c.toNat = 10) := eqb c 10
          cases hq : decide (c.toNat = 10) with
          | true =>
            rw [hq] at e10
            clear hq
            go_wp2
            go_ret
            exact ⟨rfl, HB1.out⟩
          | false =>
            rw [hq] at e10
            have HR2 : Hid (∀ j (hj : j < rm.size), j < i + 1 → not10 rm[j] = true) := by
              intro j hj hji
              by_cases hji' : j = i
              · subst hji'
                rw [HC.out]
                unfold not10
                rw [hq]
                rfl
              · exact HR.out j hj (by omega)
            clear hq
            go_wp2
            go_round
            case rel => exact ⟨i + 1, by omega, by go_num, HR2⟩
            case measure => simp [intOf]; omega
        · obtain rfl : i = rm.size := by omega
          have HRM : Hid (∀ c ∈ rm.data.toList, not10 c = true) := by
            intro c hc
            obtain ⟨j, hj, rfl⟩ := List.getElem_of_mem hc
            have hj' : j < rm.size := by rw [Lib.size_eq]; exact hj
            exact HR.out j hj' hj'
          have a1 := add_run ⟨#[9, 35]⟩ rm (by have : (⟨#[9, 35]⟩ : ByteArray).size = 2 := rfl; omega)
          have z1 : ((⟨#[9, 35]⟩ : ByteArray) ++ rm).size = 2 + rm.size := (ba_add _ _).2
          have a2 := add_run ((⟨#[9, 35]⟩ : ByteArray) ++ rm) ⟨#[10]⟩ (by have : (⟨#[10]⟩ : ByteArray).size = 1 := rfl; omega)
          have HO0 : Hid (((⟨#[9, 35]⟩ : ByteArray) ++ rm ++ (⟨#[10]⟩ : ByteArray)).data.toList = [9, 35] ++ rm.data.toList ++ [10] ∧ ((⟨#[9, 35]⟩ : ByteArray) ++ rm ++ (⟨#[10]⟩ : ByteArray)).size = 3 + rm.size) := by
            constructor
            · rw [(ba_add _ _).1, (ba_add _ _).1]
            · rw [(ba_add _ _).2, z1]
              have : (⟨#[10]⟩ : ByteArray).size = 1 := rfl
              omega
          obtain ⟨o1, ho1⟩ : ∃ o1, (⟨#[9, 35]⟩ : ByteArray) ++ rm = o1 := ⟨_, rfl⟩
          rw [ho1] at a1 a2 HO0
          obtain ⟨o2, ho2⟩ : ∃ o2, o1 ++ (⟨#[10]⟩ : ByteArray) = o2 := ⟨_, rfl⟩
          rw [ho2] at a2 HO0
          clear ho1 ho2 z1
          go_wp2
          clear a1 a2
          obtain ⟨rl, hrl⟩ : ∃ rl, rm.data.toList = rl := ⟨_, rfl⟩
          rw [hrl] at HRM HO0
          have HRL := Lib.hid hrl
          have HRS : Hid (rl.length = rm.size) := by unfold Hid; rw [← hrl, ← Lib.size_eq]
          clear hrl
          go_loopw [6, 39] (fun v i' wr => ∃ (j : Nat) (o : ByteArray) (pre : List By), i' = .int .i64 j ∧ v = .string o ∧ j ≤ n ∧ Hid (∀ r, blanksR rl (L.drop j) = some r → blanksR rl L = some (pre ++ r)) ∧ Hid (o.data.toList = [9, 35] ++ rl ++ [10] ++ pre ∧ pre.length ≤ 70 * j) ∧ o.size ≤ 43 + 70 * j ∧ Hid (Below w.heap.size w wr)) (fun _ i' _ => n - (intOf i').toNat)
          case atStart => exact ⟨0, o2, [], rfl, rfl, Nat.zero_le _, fun r hr => by rw [List.drop_zero] at hr; exact hr, ⟨by rw [HO0.out.1, List.append_nil], Nat.zero_le _⟩, by have := HO0.out.2; omega, HB1⟩
          case round =>
            obtain ⟨j, o, pre, rfl, rfl, hj, HE, HO, hos, HB⟩ := hrel
            rename World => wj
            have hle := HB.out.size
            by_cases hlt2 : j < n
            · have hlt' : j < L.length := by rw [HN.out]; exact hlt2
              have ha := HA.out.below HB.out
              obtain ⟨rfl, hbl⟩ := ha.at_ (by omega)
              obtain ⟨c0, c1, c2, c3⟩ := ha.cells j hlt'
              have hd : L.drop j = L[j] :: L.drop (j + 1) := List.drop_eq_getElem_cons hlt'
              have hxl := HX.out L[j] (List.getElem_mem hlt')
              obtain ⟨⟨k, tl, m, p⟩, hxe⟩ : ∃ x, L[j] = x := ⟨_, rfl⟩
              rw [hxe] at c0 c1 c2 c3 hd hxl
              simp only at c0 c1 c2 c3 hxl
              have hsz : (⟨tl.toArray⟩ : ByteArray).size = tl.length := by rw [Lib.size_eq]
              have HTX := Lib.hid (fun W => rtext_any k ⟨tl.toArray⟩ m p W (by rw [hsz]; exact hxl))
              obtain ⟨tx, htx⟩ : ∃ tx : ByteArray, ⟨tl.toArray⟩ = tx := ⟨_, rfl⟩
              rw [htx] at c1 HTX
              cases hs : textR (k, tl, m, p) with
              | none =>
                have e : textA (k, tl, m, p) = ([], 1) := by unfold textA; rw [hs]
                rw [show tx.data.toList = tl by rw [← htx], e] at HTX
                clear e hs hd hxe hxl htx hsz ha hlt'
                go_wp2_with fail
                with_reducible refine (HTX.out _).mono ?_
                rintro e w2 ⟨rfl, hb2⟩
                have HB2 := Lib.hid ((HB.out.alloc hle (.cells #[.int .i64 k, .string tx, .int .i64 m, .int .i64 p] 25)).trans (hb2.mono (by simp; omega)))
                clear hb2
                go_wp2
                go_ret
                exact ⟨rfl, HB2.out⟩
              | some s =>
                have e : textA (k, tl, m, p) = (s, 0) := by unfold textA; rw [hs]
                rw [show tx.data.toList = tl by rw [← htx], e] at HTX
                have HD : Hid (∃ r : ByteArray, (⟨s.toArray⟩ : ByteArray) = r ∧ r.data.toList = s ∧ r.size = s.length) := ⟨_, rfl, rfl, by rw [Lib.size_eq]⟩
                obtain ⟨r, hr1, hr2, hr3⟩ := HD.out
                simp only at HTX
                rw [hr1] at HTX
                have HR2 := Lib.hid hr2
                have HR3 := Lib.hid hr3
                have HST : Hid (∀ q, blanksR rl (L.drop (j + 1)) = some q → blanksR rl (L.drop j) = some (s ++ gapR rl ++ q)) := fun q hq => by
                  rw [hd]
                  exact blanks_step hs hq
                clear e hs hd hxe hxl htx hsz ha hlt' HD hr1 hr2 hr3
                by_cases h12 : r.size ≤ 12
                · have f1 := add_run r ⟨#[32, 10, 9, 35]⟩ (by have : (⟨#[32, 10, 9, 35]⟩ : ByteArray).size = 4 := rfl; omega)
                  have y1 : (r ++ (⟨#[32, 10, 9, 35]⟩ : ByteArray)).size = r.size + 4 := (ba_add _ _).2
                  have f2 := add_run (r ++ ⟨#[32, 10, 9, 35]⟩) rm (by omega)
                  have y2 : (r ++ (⟨#[32, 10, 9, 35]⟩ : ByteArray) ++ rm).size = r.size + 4 + rm.size := by rw [(ba_add _ _).2, y1]
                  have f3 := add_run (r ++ ⟨#[32, 10, 9, 35]⟩ ++ rm) ⟨#[10, 32, 32]⟩ (by have : (⟨#[10, 32, 32]⟩ : ByteArray).size = 3 := rfl; omega)
                  have y3 : (r ++ (⟨#[32, 10, 9, 35]⟩ : ByteArray) ++ rm ++ (⟨#[10, 32, 32]⟩ : ByteArray)).size = r.size + 4 + rm.size + 3 := by rw [(ba_add _ _).2, y2]; rfl
                  have f4 := add_run o (r ++ ⟨#[32, 10, 9, 35]⟩ ++ rm ++ ⟨#[10, 32, 32]⟩) (by omega)
                  have HP : Hid ((o ++ (r ++ (⟨#[32, 10, 9, 35]⟩ : ByteArray) ++ rm ++ (⟨#[10, 32, 32]⟩ : ByteArray))).data.toList = [9, 35] ++ rl ++ [10] ++ (pre ++ (s ++ gapR rl)) ∧ (o ++ (r ++ (⟨#[32, 10, 9, 35]⟩ : ByteArray) ++ rm ++ (⟨#[10, 32, 32]⟩ : ByteArray))).size = o.size + (r.size + 4 + rm.size + 3)) := by
                    constructor
                    · rw [(ba_add _ _).1, (ba_add _ _).1, (ba_add _ _).1, (ba_add _ _).1, HO.out.1, HR2.out, HRL.out]
                      simp [gapR]
                    · rw [(ba_add _ _).2, y3]
                  obtain ⟨x1, hx1⟩ : ∃ x1, r ++ (⟨#[32, 10, 9, 35]⟩ : ByteArray) = x1 := ⟨_, rfl⟩
                  rw [hx1] at f1 f2 f3 f4 HP
                  obtain ⟨x2, hx2⟩ : ∃ x2, x1 ++ rm = x2 := ⟨_, rfl⟩
                  rw [hx2] at f2 f3 f4 HP
                  obtain ⟨x3, hx3⟩ : ∃ x3, x2 ++ (⟨#[10, 32, 32]⟩ : ByteArray) = x3 := ⟨_, rfl⟩
                  rw [hx3] at f3 f4 HP
                  obtain ⟨x4, hx4⟩ : ∃ x4, o ++ x3 = x4 := ⟨_, rfl⟩
                  rw [hx4] at f4 HP
                  have HPL : Hid ((pre ++ (s ++ gapR rl)).length ≤ 70 * (j + 1)) := by
                    have h1 := HO.out.2
                    have h2 := HR3.out
                    have h3 := HRS.out
                    unfold Hid
                    simp [gapR]
                    omega
                  clear hx1 hx2 hx3 hx4 y1 y2 y3
                  go_wp2_with fail
                  with_reducible refine (HTX.out _).mono ?_
                  rintro e w2 ⟨rfl, hb2⟩
                  have HB2 := Lib.hid ((HB.out.alloc hle (.cells #[.int .i64 k, .string tx, .int .i64 m, .int .i64 p] 25)).trans (hb2.mono (by simp; omega)))
                  clear hb2
                  go_wp2
                  go_roundw
                  case rel => exact ⟨j + 1, x4, pre ++ (s ++ gapR rl), by go_num, rfl, by omega, fun q hq => by
                    rw [HE.out _ (HST.out q hq)]
                    simp, ⟨HP.out.1, HPL.out⟩, by have := HP.out.2; omega, HB2⟩
                  case measure => simp [intOf]; omega
                · go_wp2_with fail
                  with_reducible refine (HTX.out _).mono ?_
                  rintro e w2 ⟨rfl, hb2⟩
                  have HB2 := Lib.hid ((HB.out.alloc hle (.cells #[.int .i64 k, .string tx, .int .i64 m, .int .i64 p] 25)).trans (hb2.mono (by simp; omega)))
                  clear hb2
                  go_wp2
                  go_ret
                  exact ⟨rfl, HB2.out⟩
            · obtain rfl : j = n := by omega
              have hE := HE.out (35 :: rl) (by rw [List.drop_eq_nil_of_le (by rw [HN.out]; exact Nat.le_refl _)]; rfl)
              have f1 := add_run o ⟨#[35]⟩ (by have : (⟨#[35]⟩ : ByteArray).size = 1 := rfl; omega)
              have y1 : (o ++ (⟨#[35]⟩ : ByteArray)).size = o.size + 1 := (ba_add _ _).2
              have f2 := add_run (o ++ ⟨#[35]⟩) rm (by omega)
              have HP : Hid ((o ++ (⟨#[35]⟩ : ByteArray) ++ rm).data.toList = [9, 35] ++ rl ++ [10] ++ (pre ++ 35 :: rl)) := by
                unfold Hid
                rw [(ba_add _ _).1, (ba_add _ _).1, HO.out.1, HRL.out]
                simp
              obtain ⟨x1, hx1⟩ : ∃ x1, o ++ (⟨#[35]⟩ : ByteArray) = x1 := ⟨_, rfl⟩
              rw [hx1] at f1 f2 HP
              obtain ⟨x2, hx2⟩ : ∃ x2, x1 ++ rm = x2 := ⟨_, rfl⟩
              rw [hx2] at f2 HP
              have HSC := Lib.hid (fun W => HP.out ▸ scan_any x2 W)
              have hsd := scan_done HRM.out hE (by
                have h1 := HO.out.2
                have h3 := HRS.out
                simp
                omega)
              obtain ⟨ws, hw1, hw2⟩ := hsd
              have HW1 := Lib.hid hw1
              have HW2 := Lib.hid hw2
              clear hx1 hx2 y1 hw1 hw2 hE
              go_wp2_with fail
              with_reducible refine (HSC.out _).mono ?_
              rintro e w4 ⟨v, he, hr, hb4⟩
              rw [HW1.out] at he hr
              subst he
              obtain ⟨a2, b2, cap2, rfl, hA2⟩ := WArg.of_row hr
              have hB4 := HB.out.trans (hb4.mono HB.out.size)
              have hlen : ws.length = L.length := sameL_len HW2.out
              have hS := same_any a2 ao b2 0 b off cap2 cap ws L false w4 hA2 (HA.out.below hB4) hlen (by rw [hlen, HN.out]; omega) (fun i h1 h2 => ⟨sameL_get HW2.out i h1 h2, fun h => by cases h⟩)
              rw [hlen, HN.out] at hS ⊢
              have HS := Lib.hid hS
              have HB4 := Lib.hid hB4
              clear hr hb4 hA2 hB4 hlen hS
              go_wp2_with fail
              with_reducible refine HS.out.mono ?_
              rintro e w5 ⟨rfl, d, rfl⟩
              go_wp2
              go_ret
              exact ⟨rfl, below_drewN HB4.out d⟩
    · go_enter Tryd.func5, Tryd.ntmps5
      go_wp2_with fail
      with_reducible refine HAW.out.mono ?_
      rintro e w1 ⟨rfl, hb1⟩
      have HB1 := Lib.hid hb1
      clear hb1
      go_wp2
      go_ret
      exact ⟨rfl, HB1.out⟩
  · go_enter Tryd.func5, Tryd.ntmps5
    go_wp2_with fail
    with_reducible refine HAW.out.mono ?_
    rintro e w1 ⟨rfl, hb1⟩
    have HB1 := Lib.hid hb1
    clear hb1
    go_wp2
    go_ret
    exact ⟨rfl, HB1.out⟩
end Go.Proofs.YtalnejbpgollkaaDoor
