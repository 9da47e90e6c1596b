/-
  Layer 13's awake.
-/
import Derived.Test.YtmcfjlkjijaflaaDoorGXA
import Derived.Test.YtmcfjlkjijaflaaDoorAcPrn
import Derived.Test.YtmcfjlkjijaflaaDoorAcParse
import Derived.Test.YtmcfjlkjijaflaaDoorRaSame
import Derived.Test.YtmcfjlkjijaflaaDoorTkRef
namespace Go.Proofs.YtmcfjlkjijaflaaDoor
open Go.RowKit

theorem aw_cl : Clean aw1 := aw_clean
theorem aw_n9 : In9 aw1 := aw_in9
set_option maxRecDepth 100000 in
set_option maxHeartbeats 6400000 in
theorem awake13 (w : World) (hT : TabOk w) : Calls Tryd.prog 23 #[] w fun e w' => e = .returned (.bool true) ∧ Below w.heap.size w w' := by
  have HT := Lib.hid hT
  have hsc := rscan_any ⟨#[120, 32, 116, 105, 99, 107, 32, 51, 59, 32, 102, 105, 114, 101, 59]⟩ w
  unfold ScanPost at hsc
  have HSC := Lib.hid hsc
  clear hsc hT
  go_enter Tryd.func23, Tryd.ntmps23
  go_wp2_with fail
  with_reducible refine HSC.out.mono ?_
  rintro e w1 ⟨v, he, hr, hb⟩
  rw [aw_scan] at he hr
  subst he
  obtain ⟨g, cap, rfl, _, _⟩ := ownsRow_pos hr (by decide)
  have hp0 := aparse_any (some ⟨g, 0, none⟩) g 0 cap aw1 1 w1 (WArg.row_at hr) (by decide) aw_cl aw_n9
  unfold ParseAP at hp0
  rw [aw_parse, show aw1.length = 6 from rfl] at hp0
  simp only at hp0
  have HP0 := Lib.hid hp0
  have HWA := Lib.hid (WArg.row_at hr)
  have HB1 := Lib.hid hb
  rw [show aw1.length = 6 from rfl]
  clear hr hb hp0 HSC
  go_wp2_with fail
  with_reducible refine HP0.out.mono ?_
  rintro e w2 ⟨v2, rfl, hr2, hb2⟩
  obtain ⟨g2, cap2, rfl, _, _⟩ := ownsRow_pos hr2 (by decide)
  rw [show as1.length = 2 from rfl]
  have HB2 := Lib.hid (HB1.out.trans (hb2.mono HB1.out.size))
  have HWA2 := Lib.hid (HWA.out.below hb2)
  have hoa := AArg.at_row hr2
  have HOA := Lib.hid hoa
  have hpr := aprint_any (some ⟨g2, 0, none⟩) g2 0 cap2 as1 w2 hoa (by decide) (HT.out.below HB2.out)
  have ep : printAc as1 = (at1, 0) := by
    have ew : wordsAc as1 = (as1.flatMap acW, 0) := by
      unfold wordsAc
      rw [if_pos aw_may, if_neg (by decide)]
    unfold printAc
    rw [ew, if_pos rfl, aw_join]
  unfold PrintP at hpr
  rw [ep, show as1.length = 2 from rfl] at hpr
  obtain ⟨sx, hsx⟩ : ∃ sx : ByteArray, ⟨at1.toArray⟩ = sx := ⟨_, rfl⟩
  have hsl : sx.toList = at1 := by rw [Lib.toList_data, ← hsx]
  simp only [hsx] at hpr
  have hsq : (sx.toList == [116, 105, 99, 107, 32, 51, 59, 32, 102, 105, 114, 101, 59]) = true := by rw [hsl]; decide +kernel
  have HPR := Lib.hid hpr
  clear hpr hr2 hb2 hoa ep hsx hsl HP0
  go_wp2_with fail
  with_reducible refine HPR.out.mono ?_
  rintro e w3 ⟨rfl, hb3⟩
  have HB3 := Lib.hid (HB2.out.trans (hb3.mono HB2.out.size))
  have HOA3 := Lib.hid (HOA.out.below hb3)
  have hp1 := aparse_any (some ⟨g, 0, none⟩) g 0 cap aw1 0 w3 (HWA2.out.below hb3) (by decide) aw_cl aw_n9
  unfold ParseAP at hp1
  rw [aw_parse0, show aw1.length = 6 from rfl] at hp1
  have HP1 := Lib.hid hp1
  clear hb3 hp1 HPR
  go_wp2_with fail
  with_reducible refine HP1.out.mono ?_
  rintro e w4 ⟨v4, rfl, hr4, hb4⟩
  have HB4 := Lib.hid (HB3.out.trans (hb4.mono HB3.out.size))
  obtain ⟨ao4, cap4, hv4, _⟩ := ownsRow_shape hr4
  subst hv4
  have hn := anm_any 4 w4
  rw [aw_name] at hn
  have HNM := Lib.hid hn
  obtain ⟨y0, y1, y2, y3, y4⟩ := (HOA3.out.below hb4).cells 0 (by decide)
  have y0 : w4.cell? ⟨g2, 0, none⟩ = some (.int .i64 1) := y0
  have y1 : w4.cell? ⟨g2, 1, none⟩ = some (.int .i64 3) := y1
  have y2 : w4.cell? ⟨g2, 2, none⟩ = some (.int .i64 0) := y2
  have y3 : w4.cell? ⟨g2, 3, none⟩ = some (.int .i64 0) := y3
  have y4 : w4.cell? ⟨g2, 4, none⟩ = some (.int .i64 0) := y4
  have hq := fun W => eq_act_self 1 3 0 0 0 W
  clear hr4 hb4 hn HP1
  go_wp2_with fail
  with_reducible refine HNM.out.mono ?_
  rintro e w5 ⟨rfl, hb5⟩
  have HB5 := Lib.hid (HB4.out.trans (hb5.mono HB4.out.size))
  clear hb5
  go_wp2
  go_ret
  exact ⟨rfl, HB5.out⟩
end Go.Proofs.YtmcfjlkjijaflaaDoor
