/-
  Layer 12's awake.
  From the walks of layer 12 to the rows: the library's table out of the row's condition; the witness.
-/
import Derived.Test.YtmcfjlkjijaflaaGreatDoorGAB
import Derived.Test.YtmcfjlkjijaflaaGreatDoorGAU
import Derived.Test.YtmcfjlkjijaflaaGreatDoorSpParse
import Derived.Test.YtmcfjlkjijaflaaGreatDoorGBD
import Derived.Test.YtmcfjlkjijaflaaGreatDoorGAA
import Derived.Test.YtmcfjlkjijaflaaGreatDoorTie
import Derived.Test.YtmcfjlkjijaflaaGreatDoorCards
import Derived.Lib.LaidTab
import Derived.LaidMore
import Derived.Stop.Joined
import Derived.Stop.LaidErr
import Derived.SevenTiedAt
import Derived.SizedLaws
import Derived.ChangeMaps5

/- Layer 12's awake. -/
namespace Go.Proofs.YtmcfjlkjijaflaaGreatDoor
open Go.RowKit

set_option maxRecDepth 100000 in
set_option maxHeartbeats 6400000 in
theorem awake12 (w : World) (hT : TabOk w) : Calls Tryz.prog 6 #[] w fun e w' => e = .returned (.bool true) ∧ Below w.heap.size w w' := by
  have HT := Lib.hid hT
  have hsc := rscan_any ⟨#[99, 111, 114, 101, 115, 32, 49, 59, 32, 103, 114, 97, 105, 110, 32, 50, 59, 32, 103, 114, 111, 117, 112, 32, 52, 59, 32, 108, 111, 99, 107, 32, 115, 108, 105, 99, 101, 32, 51, 32, 99, 114, 105, 116, 32, 53, 59, 32, 115, 104, 97, 114, 101, 100, 32, 115, 108, 105, 99, 101, 32, 49, 32, 99, 114, 105, 116, 32, 50, 32, 114, 101, 97, 100, 32, 51, 32, 119, 114, 105, 116, 101, 32, 52, 59, 32, 112, 114, 111, 103, 32, 123, 32, 101, 120, 105, 116, 59, 32, 125]⟩ w
  unfold ScanPost at hsc
  have HSC := Lib.hid hsc
  clear hsc hT
  go_enter Tryz.func6, Tryz.ntmps6
  go_wp2_with fail
  with_reducible refine HSC.out.mono ?_
  rintro e w1 ⟨v, he, hr, hb⟩
  rw [sw_scan] at he hr
  subst he
  obtain ⟨g, cap, rfl, _, _⟩ := ownsRow_pos hr (by decide)
  have hp0 := psparse_any (some ⟨g, 0, none⟩) g 0 cap sw1 0 w1 (WArg.row_at hr) (by decide) sw_clean
  unfold ParseSP at hp0
  rw [ss_parse, show sw1.length = 30 from rfl] at hp0
  simp only [show ss1.1 = 1 from rfl, show ss1.2.1 = 2 from rfl, show ss1.2.2.1.length = 1 from rfl, show ss1.2.2.2.1.length = 2 from rfl, show ss1.2.2.2.2.length = 1 from rfl] at hp0
  have HP0 := Lib.hid hp0
  have HWA := Lib.hid (WArg.row_at hr)
  have HB1 := Lib.hid hb
  rw [show sw1.length = 30 from rfl]
  clear hr hb hp0 HSC
  go_wp2_with fail
  refine HP0.out.mono ?_
  rintro e w2 ⟨ag, bg, og, cg, al, bl, ol, cl, ap, bp, op, cp, rfl, hsa, hb2⟩
  have HB2 := Lib.hid (HB1.out.trans (hb2.mono HB1.out.size))
  have HWA2 := Lib.hid (HWA.out.below hb2)
  have hbx : Below w2.heap.size w2 (w2.alloc (.cells #[.int .i64 1, .int .i64 2, .slice ag 1 cg, .slice al 2 cl, .slice ap 1 cp] 26)) := (Below.refl _ w2).alloc (Nat.le_refl _) _
  have hpr := psprint_any ss1 ag bg og cg al bl ol cl ap bp op cp _ (hsa.below hbx) (HT.out.below (HB2.out.trans (hbx.mono HB2.out.size)))
  have ep : printS ss1 = (st1, 0) := by
    unfold printS
    rw [ss_may, ss_join]
    rfl
  unfold PrintP at hpr
  rw [ep] at hpr
  simp only [show ss1.1 = 1 from rfl, show ss1.2.1 = 2 from rfl, show ss1.2.2.1.length = 1 from rfl, show ss1.2.2.2.1.length = 2 from rfl, show ss1.2.2.2.2.length = 1 from rfl] at hpr
  obtain ⟨sx, hsx⟩ : ∃ sx : ByteArray, ⟨st1.toArray⟩ = sx := ⟨_, rfl⟩
  have hsl : sx.toList = st1 := by rw [Lib.toList_data, ← hsx]
  simp only [hsx] at hpr
  have hsq : (sx.toList == [99, 111, 114, 101, 115, 32, 49, 59, 32, 103, 114, 97, 105, 110, 32, 50, 59, 32, 103, 114, 111, 117, 112, 32, 52, 59, 32, 108, 111, 99, 107, 32, 115, 108, 105, 99, 101, 32, 51, 32, 99, 114, 105, 116, 32, 53, 59, 32, 115, 104, 97, 114, 101, 100, 32, 115, 108, 105, 99, 101, 32, 49, 32, 99, 114, 105, 116, 32, 50, 32, 114, 101, 97, 100, 32, 51, 32, 119, 114, 105, 116, 101, 32, 52, 59, 32, 112, 114, 111, 103, 32, 123, 32, 101, 120, 105, 116, 59, 32, 125]) = true := by rw [hsl]; decide +kernel
  have HPR := Lib.hid hpr
  have HSA := Lib.hid hsa
  have HBX := Lib.hid hbx
  have HX := Lib.hid (heap_alloc_new w2 (.cells #[.int .i64 1, .int .i64 2, .slice ag 1 cg, .slice al 2 cl, .slice ap 1 cp] 26))
  clear hpr hsa hb2 hbx ep hsx hsl HP0
  go_wp2_with fail
  with_reducible refine HPR.out.mono ?_
  rintro e w3 ⟨rfl, hb3⟩
  have HX3 := Lib.hid ((hb3.block _ (lt_of_block HX.out)).trans HX.out)
  have HB23 := Lib.hid (HBX.out.trans (hb3.mono HBX.out.size))
  have HB3 := Lib.hid (HB2.out.trans (HB23.out.mono HB2.out.size))
  have hp1 := psparse_any (some ⟨g, 0, none⟩) g 0 cap sw1 1 w3 (HWA2.out.below HB23.out) (by decide) sw_clean
  unfold ParseSP at hp1
  rw [ss_parse1, show sw1.length = 30 from rfl] at hp1
  have HP1 := Lib.hid hp1
  clear hb3 hp1 HPR
  go_wp2_with fail
  refine HP1.out.mono ?_
  rintro e w4 ⟨ag4, bg4, og4, cg4, al4, bl4, ol4, cl4, ap4, bp4, op4, cp4, rfl, -, hb4⟩
  have HB24 := Lib.hid (HB23.out.trans (hb4.mono HB23.out.size))
  have HX4 := Lib.hid ((hb4.block _ (lt_of_block HX3.out)).trans HX3.out)
  have hbe : Below w4.heap.size w4 (w4.alloc (.cells (stC noneS.1 noneS.2.1 ag4 noneS.2.2.1.length cg4 al4 noneS.2.2.2.1.length cl4 ap4 noneS.2.2.2.2.length cp4) 26)) := (Below.refl _ w4).alloc (Nat.le_refl _) _
  have HB25 := Lib.hid (HB24.out.trans (hbe.mono HB24.out.size))
  have hmy := psmay_any ss1 ag bg og cg al bl ol cl ap bp op cp _ (HSA.out.below HB25.out)
  rw [ss_may] at hmy
  simp only [show ss1.1 = 1 from rfl, show ss1.2.1 = 2 from rfl, show ss1.2.2.1.length = 1 from rfl, show ss1.2.2.2.1.length = 2 from rfl, show ss1.2.2.2.2.length = 1 from rfl] at hmy
  have HMY := Lib.hid hmy
  obtain ⟨rfl, hbl⟩ := (HSA.out.below HB24.out).ls.at_ (by decide)
  obtain ⟨_, _, _, _, y4⟩ := (HSA.out.below HB24.out).ls.cells 1 (by decide)
  have y4 : w4.cell? ⟨bl, ol + 5 + 4, none⟩ = some (.int .i64 4) := y4
  have hlt4 := lt_of_block HX4.out
  have HB4 := Lib.hid (HB3.out.trans (hb4.mono HB3.out.size))
  have HBE := Lib.hid hbe
  obtain ⟨x0, x1, x2, x3, x4⟩ := st_cells HX4.out
  clear hb4 hbe hmy HP1
  go_wp2_with fail
  with_reducible refine HMY.out.mono ?_
  rintro e w5 ⟨rfl, hb5⟩
  have HB5 := Lib.hid ((HB4.out.trans (HBE.out.mono HB4.out.size)).trans (hb5.mono (by have := HB4.out.size; have := HBE.out.size; omega)))
  clear hb5 x0 x1 x2 x3 x4 y4
  go_wp2
  go_ret
  exact ⟨rfl, HB5.out⟩
end Go.Proofs.YtmcfjlkjijaflaaGreatDoor

/- From the walks of layer 12 to the rows: the library's table out of the row's condition; the witness. -/
namespace Go.Proofs.YtmcfjlkjijaflaaGreatDoor
open Go.ChangeShapes Go.WideShapes Go.ChangeAt Go.RowKit Go.Deep

abbrev laidT : List (String × DataW Unit) := [("math/bits.deBruijn32tab", Rows.laid_math_bits_deBruijn32tab), ("math/bits.deBruijn64tab", Rows.laid_math_bits_deBruijn64tab), ("internal/strconv.uint64pow10", Rows.laid_internal_strconv_uint64pow10)]
theorem tab_data : (Rows.laid_internal_strconv_uint64pow10 : DataW Unit) = Lib.tabData .u64 Lib.pow10Tab := by kernel_rfl
theorem gTab : Tryz.prog.globalNamed "internal/strconv.uint64pow10" = some 0 := by kernel_rfl
theorem gTabType : (Tryz.prog.globals[0]?).map (·.type) = some 178 := by kernel_rfl
theorem cellsU : Tryz.prog.cellsOf 170 = 1 := by kernel_rfl
theorem cellsT : Tryz.prog.cellsOf 178 = 20 := by kernel_rfl
/-- The library's table, out of the row's condition. -/
theorem tab_of_laid {W : World} (h : laidMetH Tryz.prog laidT W) : TabOk W := by
  rw [MakeChecks.laidMetH_plain _ _ _ (by kernel_rfl)] at h
  unfold laidT at h
  have h2 := h.tail.tail
  rw [tab_data] at h2
  exact Lib.tabIs_of_head gTab gTabType Tryz.underlying178 Tryz.underlying170 cellsU cellsT h2
/-- The heap that the door's own run leaves meets the condition. -/
theorem door_met (os : Os) (args : Array Value) : laidMetH Tryz.prog laidT ((World.doorLaid Tryz.prog 24 os).forCall (fun _ _ => 0) ⟨#[], args, []⟩).memory :=
  laidMetH_of_parts3 (fuel := 8) (laidMet_of_run' 8 (by kernel_rfl) (by kernel_rfl)) (by kernel_rfl) (by kernel_rfl)
end Go.Proofs.YtmcfjlkjijaflaaGreatDoor
