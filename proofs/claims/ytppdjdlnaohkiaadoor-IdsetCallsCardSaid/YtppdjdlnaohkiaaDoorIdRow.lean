/-
  From the walks of layer 6 to the rows: the library's table out of the row's condition; the witness; arguments.
-/
import Derived.Test.YtppdjdlnaohkiaaDoorArRow
import Derived.Test.YtppdjdlnaohkiaaDoorTie
import Derived.Test.YtppdjdlnaohkiaaDoorCards
import Derived.Test.YtppdjdlnaohkiaaDoorIdCalls
import Derived.Lib.LaidTab
import Derived.LaidMore
import Derived.Stop.Joined
import Derived.SevenTiedAt
namespace Go.Proofs.YtppdjdlnaohkiaaDoor
open Go.ChangeShapes Go.WideShapes Go.ChangeAt Go.RowKit Go.Deep

theorem u64_of_wf {x : Int} (h : (Lit.int .u64 x).wf = true) : 0 ≤ x ∧ x < 18446744073709551616 := by
  simp [Lit.wf, IntKind.min, IntKind.max, IntKind.signed, IntKind.bits] at h
  omega
theorem u8_of_wf {x : Int} (h : (Lit.int .u8 x).wf = true) : 0 ≤ x ∧ x < 256 := by
  simp [Lit.wf, IntKind.min, IntKind.max, IntKind.signed, IntKind.bits] at h
  omega
theorem i64_of_wf {x : Int} (h : (Lit.int .i64 x).wf = true) : -9223372036854775808 ≤ x ∧ x ≤ 9223372036854775807 := by
  simp [Lit.wf, IntKind.min, IntKind.max, IntKind.signed, IntKind.bits] at h
  omega

/-- The table's numbers. -/
def tabZ : List Int := Lib.deBruijn64tab.map fun n : Nat => (n : Int)
abbrev laidT : List (String × DataW Unit) := [("math/bits.deBruijn64tab", Rows.laid_math_bits_deBruijn64tab)]
theorem tab_data : (Rows.laid_math_bits_deBruijn64tab : DataW Unit) = Lib.tabData .u8 tabZ := by kernel_rfl
theorem gTab : Tryd.prog.globalNamed "math/bits.deBruijn64tab" = some 0 := by kernel_rfl
theorem gTabType : (Tryd.prog.globals[0]?).map (·.type) = some 40 := by kernel_rfl
theorem cellsB : Tryd.prog.cellsOf 5 = 1 := by kernel_rfl
theorem cellsT : Tryd.prog.cellsOf 40 = 64 := by kernel_rfl
theorem tab_len : Lib.deBruijn64tab.length = 64 := by decide +kernel
/-- **THE LIBRARY's TABLE, OUT OF THE ROW's CONDITION.** -/
theorem tab_of_laid {W : World} (h : laidMetH Tryd.prog laidT W) : TabOk W := by
  rw [MakeChecks.laidMetH_plain _ _ _ (by kernel_rfl)] at h
  unfold laidT at h
  rw [tab_data] at h
  have hT := Lib.tabIs_of_head gTab gTabType Tryd.underlying40 Tryd.underlying5 cellsB cellsT h
  intro j hj
  have hc := hT.cell gTab j (by simp [tabZ, tab_len]; exact hj)
  rw [hc]
  have hj' : j < Lib.deBruijn64tab.length := by rw [tab_len]; exact hj
  simp [tabZ, List.getD_eq_getElem?_getD, hj']
/-- The heap that the door's own run leaves meets the condition. -/
theorem door_met (os : Os) (args : Array Value) : laidMetH Tryd.prog laidT ((World.doorLaid Tryd.prog 14 os).forCall (fun _ _ => 0) ⟨#[], args, []⟩).memory :=
  laidMetH_of_parts3 (fuel := 8) (laidMet_of_run' 8 (by kernel_rfl) (by kernel_rfl)) (by kernel_rfl) (by kernel_rfl)
/-- A slice of integers: its cells. -/
theorem open_nums6 {H : Type} {enc : TypeId × Value → H} {P : Program} {w : World} {base : Nat} {held : Bool} {t e : TypeId} (ht : P.underlying t = some (.slice e)) (he : P.underlying e = some (.int .i64)) (hC : P.cellsOf e = 1) {v : Value} {d : DataW H} {p : List MemPlace} {r : Reach} {b0 : Nat}
    (hok : Value.okWide P w r b0 t v) (h : DataW.Trod enc P w base (fun _ => true) held t v d p) :
    ∃ (ao : Option Addr) (b off cap : Nat) (zs : List Int), v = .slice ao zs.length cap ∧ zs.length ≤ maxLen ∧ (0 < zs.length → ao = some ⟨b, off, none⟩ ∧ b < w.heap.size) ∧ (∀ i, i < zs.length → w.cell? ⟨b, off + i, none⟩ = some (.int .i64 (zs.getD i 0))) ∧ ∀ x ∈ zs, (Lit.int .i64 x).wf = true := by
  obtain ⟨fuel, hf⟩ := h
  obtain ⟨a', len', cap', rfl⟩ := okWide_slice ht hok
  rcases open_ints ht he hC hf with ⟨hcs, _⟩ | ⟨a, len, cap, zs, hcs, _, hl, hm, hlen, _, hc, hwf⟩
  · have hv : Value.slice a' len' cap' = .slice none 0 0 := by simpa [Value.cells] using hcs
    exact ⟨none, 0, 0, 0, [], hv, by simp, fun h => by simp at h, fun i h => by simp at h, fun x h => by simp at h⟩
  · have hv : Value.slice a' len' cap' = .slice (some a) len cap := by simpa [Value.cells] using hcs
    simp only [if_true] at hlen
    have hzl : (zs.take len).length = len := by simp; omega
    by_cases h0 : 0 < len
    · have c0 := hc 0 (by omega)
      have ha0 : a.add 0 = a := by
        unfold Addr.add
        simp
      rw [ha0] at c0
      obtain ⟨b, off, rfl, hbl⟩ := spot_none c0
      refine ⟨_, b, off, cap, zs.take len, by rw [hzl]; exact hv, by omega, fun _ => ⟨rfl, hbl⟩, fun i hi => ?_, fun x hx => hwf x (List.mem_of_mem_take hx)⟩
      rw [hzl] at hi
      have hci := hc i (by omega)
      rw [Addr.add_lit] at hci
      rw [hci]
      simp [hi]
    · refine ⟨some a, 0, 0, cap, zs.take len, by rw [hzl]; exact hv, by omega, fun h => by omega, fun i hi => by omega, fun x hx => hwf x (List.mem_of_mem_take hx)⟩
end Go.Proofs.YtppdjdlnaohkiaaDoor
