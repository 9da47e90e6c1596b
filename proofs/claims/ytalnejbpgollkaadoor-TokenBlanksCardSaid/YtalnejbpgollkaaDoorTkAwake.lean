/-
  awake: three words.
-/
import Derived.Test.YtalnejbpgollkaaDoorTkRJoin
namespace Go.Proofs.YtalnejbpgollkaaDoor
open Go.RowKit

abbrev aw1 : List Wd := [(1, [99, 111, 114, 101, 115], 0, 0), (2, [], 2, 6), (3, [59], 0, 7)]
theorem aw_scan1 : scanA [99, 111, 114, 101, 115, 32, 50, 59, 32, 35, 32, 120] = (aw1, 0, 0) := by
  have e1 : oneR 99 [111, 114, 101, 115, 32, 50, 59, 32, 35, 32, 120] 0 = ((1, [99, 111, 114, 101, 115], 0, 0), 4, true) := by decide +kernel
  have e2 : oneR 50 [59, 32, 35, 32, 120] 6 = ((2, [], 2, 6), 0, true) := by decide +kernel
  have e3 : oneR 59 [32, 35, 32, 120] 7 = ((3, [59], 0, 7), 0, true) := by decide +kernel
  have h : scanR [99, 111, 114, 101, 115, 32, 50, 59, 32, 35, 32, 120] 0 false = .ok aw1 := by
    rw [scan_word (by decide) (by decide) _ _ _ (by rw [e1]; decide), e1]
    simp only [List.drop_succ_cons, List.drop_zero]
    rw [scan_blank (by decide), scan_word (by decide) (by decide) _ _ _ (by rw [e2]; decide), e2]
    simp only [List.drop_zero]
    rw [scan_word (by decide) (by decide) _ _ _ (by rw [e3]; decide), e3]
    simp only [List.drop_zero]
    rw [scan_blank (by decide), scan_remark (by decide) (by decide), show List.dropWhile not10 [32, 120] = [] by decide, scan_nil]
    rfl
  unfold scanA
  rw [if_neg (by decide), h]
theorem aw_scan2 : scanA [97, 32, 48, 49] = ([], 2, 5) := by
  have e1 : oneR 97 [32, 48, 49] 0 = ((1, [97], 0, 0), 0, true) := by decide +kernel
  have e2 : oneR 48 [49] 2 = ((2, [], 1, 2), 1, false) := by decide +kernel
  have h : scanR [97, 32, 48, 49] 0 false = .error 2 := by
    rw [scan_word (by decide) (by decide) _ _ _ (by rw [e1]; decide), e1]
    simp only [List.drop_zero]
    rw [scan_blank (by decide), scan_bad (by decide) (by decide) _ _ _ (by rw [e2]; decide)]
    rfl
  unfold scanA
  rw [if_neg (by decide), h]
  rfl
theorem aw_join : joinA aw1 = ([99, 111, 114, 101, 115, 32, 50, 59], 0) := by
  have e1 : textR (1, [99, 111, 114, 101, 115], 0, 0) = some [99, 111, 114, 101, 115] := by decide +kernel
  have e2 : textR (2, [], 2, 6) = some [50] := by
    unfold textR
    rw [if_pos rfl, if_pos (by decide), show (2 : Int).toNat = 2 from rfl, digits_small (by decide)]
    rfl
  have e3 : textR (3, [59], 0, 7) = some [59] := by decide +kernel
  have h : joinF aw1 [] = some [99, 111, 114, 101, 115, 32, 50, 59] := by
    simp only [joinF, e1, e2, e3]
    decide +kernel
  unfold joinA
  rw [h]
  decide

set_option maxHeartbeats 1600000 in
theorem awake9 (w : World) (hT : TabOk w) : Calls Tryd.prog 6 #[] w fun e w' => e = .returned (.bool true) ∧ Below w.heap.size w w' := by
  have H1 := Lib.hid (scan_any ⟨#[99, 111, 114, 101, 115, 32, 50, 59, 32, 35, 32, 120]⟩ w)
  have H2 := Lib.hid (fun W => scan_any ⟨#[97, 32, 48, 49]⟩ W)
  have HT := Lib.hid hT
  clear hT
  go_enter Tryd.func6, Tryd.ntmps6
  go_wp2_with fail
  with_reducible refine H1.out.mono ?_
  rintro e w1 ⟨v, he, hr, hb⟩
  rw [aw_scan1] at he hr
  subst he
  obtain ⟨g, cap, rfl, _, _⟩ := ownsRow_pos hr (by decide)
  have hc := (row_word hr 1 (by decide)).2.2.1
  have hg := (hr.lt g (by simp [Value.ownBlock])).2
  have HJ := join_any (some ⟨g, 0, none⟩) g 0 cap aw1 w1 (WArg.row_at hr) (by decide) (by decide) (HT.out.below hb)
  unfold JoinPost at HJ
  rw [aw_join, show aw1.length = 3 from rfl] at HJ
  rw [show aw1.length = 3 from rfl]
  simp only [List.getElem_cons_succ, List.getElem_cons_zero] at hc
  have HJ1 := Lib.hid HJ
  have HB1 := Lib.hid hb
  clear hr hb HJ
  go_wp2_with fail
  with_reducible refine HJ1.out.mono ?_
  rintro e w2 ⟨rfl, hb2⟩
  have HB2 := Lib.hid (HB1.out.trans (hb2.mono HB1.out.size))
  have hc2 := (hb2.cell (p := ⟨g, 1 * 4 + 2, none⟩) hg).trans hc
  have hg2 : g < w2.heap.size := Nat.lt_of_lt_of_le hg hb2.size
  clear hc hb2 HJ1
  go_wp2_with fail
  with_reducible refine (H2.out _).mono ?_
  rintro e w3 ⟨v3, he, _, hb3⟩
  rw [aw_scan2] at he
  subst he
  have HB3 := Lib.hid (HB2.out.trans (hb3.mono HB2.out.size))
  have hc3 := (hb3.cell (p := ⟨g, 1 * 4 + 2, none⟩) hg2).trans hc2
  clear hc2 hb3
  go_wp2
  go_ret
  exact ⟨rfl, HB3.out⟩
end Go.Proofs.YtalnejbpgollkaaDoor
