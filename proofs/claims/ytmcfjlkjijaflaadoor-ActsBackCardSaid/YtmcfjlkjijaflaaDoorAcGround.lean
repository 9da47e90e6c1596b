/-
  From the walks of layer 13 to the rows: acts opened to their cells; the library's table out of the row's condition; the witness.
-/
import Derived.Test.YtmcfjlkjijaflaaDoorAcSaid
import Derived.Test.YtmcfjlkjijaflaaDoorArRow
import Derived.Test.YtmcfjlkjijaflaaDoorTie
import Derived.Test.YtmcfjlkjijaflaaDoorCards
import Derived.Lib.LaidTab
import Derived.LaidMore
import Derived.Stop.Joined
import Derived.Stop.LaidErr
import Derived.SevenTiedAt
import Derived.SizedLaws
import Derived.ChangeMaps5
namespace Go.Proofs.YtmcfjlkjijaflaaDoor
open Go.ChangeShapes Go.WideShapes Go.ChangeAt Go.RowKit Go.Deep

abbrev laidT : List (String × DataW Unit) := [("math/bits.deBruijn32tab", Rows.laid_math_bits_deBruijn32tab), ("math/bits.deBruijn64tab", Rows.laid_math_bits_deBruijn64tab), ("internal/strconv.uint64pow10", Rows.laid_internal_strconv_uint64pow10)]
theorem tab_data : (Rows.laid_internal_strconv_uint64pow10 : DataW Unit) = Lib.tabData .u64 Lib.pow10Tab := by kernel_rfl
theorem gTab : Tryd.prog.globalNamed "internal/strconv.uint64pow10" = some 0 := by kernel_rfl
theorem gTabType : (Tryd.prog.globals[0]?).map (·.type) = some 142 := by kernel_rfl
theorem cellsU : Tryd.prog.cellsOf 136 = 1 := by kernel_rfl
theorem cellsT : Tryd.prog.cellsOf 142 = 20 := by kernel_rfl
/-- The library's table, out of the row's condition. -/
theorem tab_of_laid {W : World} (h : laidMetH Tryd.prog laidT W) : TabOk W := by
  rw [MakeChecks.laidMetH_plain _ _ _ (by kernel_rfl)] at h
  unfold laidT at h
  have h2 := h.tail.tail
  rw [tab_data] at h2
  exact Lib.tabIs_of_head gTab gTabType Tryd.underlying142 Tryd.underlying136 cellsU cellsT h2
/-- The heap that the door's own run leaves meets the condition. -/
theorem door_met (os : Os) (args : Array Value) : laidMetH Tryd.prog laidT ((World.doorLaid Tryd.prog 24 os).forCall (fun _ _ => 0) ⟨#[], args, []⟩).memory :=
  laidMetH_of_parts3 (fuel := 8) (laidMet_of_run' 8 (by kernel_rfl) (by kernel_rfl)) (by kernel_rfl) (by kernel_rfl)
theorem byte_wf {x : Int} (h : (Lit.int .u8 x).wf = true) : 0 ≤ x ∧ x ≤ 255 := by
  simp [Lit.wf, IntKind.min, IntKind.max, IntKind.signed, IntKind.bits] at h
  exact ⟨by omega, by omega⟩
section
variable {H : Type} {enc : TypeId × Value → H} {P : Program} {w : World} {base : Nat} {spare : Nat → Bool} {held : Bool}
theorem open_acts {t e : TypeId} {f0 f1 f2 f3 f4 : Field} (ht : P.underlying t = some (.slice e)) (he : P.underlying e = some (.struct #[f0, f1, f2, f3, f4])) (hone : oneCellFields P #[f0, f1, f2, f3, f4] = true) (hC : P.cellsOf e = 5)
    (k0 : P.underlying f0.type = some (.int .i64)) (k1 : P.underlying f1.type = some (.int .i64)) (k2 : P.underlying f2.type = some (.int .i64)) (k3 : P.underlying f3.type = some (.int .i64)) (k4 : P.underlying f4.type = some (.int .i64)) {v : Value} {d : DataW H} {p : List MemPlace} {r : Reach} {b0 : Nat} (hok : Value.okWide P w r b0 t v) (h : DataW.Trod enc P w base spare held t v d p) :
    ∃ (ao : Option Addr) (b off cap : Nat) (L : List Ac), v = .slice ao L.length cap ∧ (ao = none → cap = 0) ∧ AArg w ao b off L := by
  obtain ⟨fuel, hf⟩ := h
  obtain ⟨a', len', cap', rfl⟩ := okWide_slice ht hok
  rcases open_slice ht hf with ⟨hcs, _⟩ | ⟨a, len, cap, m, n, D, Pl, hcs, hb, hl, hm, hmm, hx, hi⟩
  · have hv : Value.slice a' len' cap' = .slice none 0 0 := by simpa [Value.cells] using hcs
    exact ⟨none, 0, 0, 0, [], hv, fun _ => rfl, fun h => absurd h (by simp), fun i h => absurd h (by simp)⟩
  · have hv : Value.slice a' len' cap' = .slice (some a) len cap := by simpa [Value.cells] using hcs
    have hlm : len ≤ m := by rw [hmm]; split <;> omega
    have each : ∀ i, ∃ x : Ac, i < len → w.cell? ((a.add (i * 5)).add 0) = some (.int .i64 x.1) ∧ w.cell? ((a.add (i * 5)).add 1) = some (.int .i64 x.2.1) ∧ w.cell? ((a.add (i * 5)).add 2) = some (.int .i64 x.2.2.1) ∧ w.cell? ((a.add (i * 5)).add 3) = some (.int .i64 x.2.2.2.1) ∧ w.cell? ((a.add (i * 5)).add 4) = some (.int .i64 x.2.2.2.2) := by
      intro i
      by_cases hil : i < len
      · obtain ⟨cs', hc, ht'⟩ := hi i (by omega)
        rw [hC] at hc
        obtain ⟨ys, n', hn', hy, hlen, hyl, hg⟩ := DataW.trod_struct he ht'
        obtain ⟨_, hcl, hat⟩ := World.cells?_some hc
        have field : ∀ (j : Nat) (f : Field) (k : IntKind), j < 5 → (#[f0, f1, f2, f3, f4] : Array Field)[j]? = some f → P.underlying f.type = some (.int k) → ∃ x : Int, cs'[j]? = some (.int k x) := by
          intro j f k hj hfj hk
          obtain ⟨ho, hone1⟩ := hone_of hone j f hfj
          have h1 := hg j f hfj
          rw [ho, hone1] at h1
          have hcj : j < cs'.length := by omega
          have hcut : (cs'.drop j).take 1 = [cs'[j]] := by
            rw [List.drop_eq_getElem_cons hcj]
            rfl
          have hjl : j < ys.length := by rw [hyl]; exact hj
          rw [hcut, List.getElem?_eq_getElem hjl] at h1
          obtain ⟨x, hx1, _, _⟩ := DataW.trod_int hk h1
          simp only [List.cons.injEq, and_true] at hx1
          exact ⟨x, by rw [List.getElem?_eq_getElem hcj, hx1]⟩
        obtain ⟨x0, e0⟩ := field 0 f0 .i64 (by omega) rfl k0
        obtain ⟨x1, e1⟩ := field 1 f1 .i64 (by omega) rfl k1
        obtain ⟨x2, e2⟩ := field 2 f2 .i64 (by omega) rfl k2
        obtain ⟨x3, e3⟩ := field 3 f3 .i64 (by omega) rfl k3
        obtain ⟨x4, e4⟩ := field 4 f4 .i64 (by omega) rfl k4
        exact ⟨(x0, x1, x2, x3, x4), fun _ => ⟨by rw [hat 0 (by omega), e0], by rw [hat 1 (by omega), e1], by rw [hat 2 (by omega), e2], by rw [hat 3 (by omega), e3], by rw [hat 4 (by omega), e4]⟩⟩
      · exact ⟨(0, 0, 0, 0, 0), fun h => absurd h hil⟩
    obtain ⟨G, hG⟩ := Classical.axiomOfChoice each
    have hLl : ((List.range len).map G).length = len := by simp
    by_cases h0 : 0 < len
    · obtain ⟨c0, _⟩ := hG 0 h0
      have ha0 : (a.add (0 * 5)).add 0 = a := by
        unfold Addr.add
        simp
      rw [ha0] at c0
      obtain ⟨b, off, rfl, hbl⟩ := spot_none c0
      refine ⟨_, b, off, cap, (List.range len).map G, by rw [hLl]; exact hv, (fun h => by cases h), fun _ => ⟨rfl, hbl⟩, fun i hil => ?_⟩
      have hil' : i < len := by rw [hLl] at hil; exact hil
      obtain ⟨g0, g1, g2, g3, g4⟩ := hG i hil'
      simp only [Addr.add_lit, Nat.add_zero] at g0 g1 g2 g3 g4
      simp only [List.getElem_map, List.getElem_range]
      exact ⟨g0, g1, g2, g3, g4⟩
    · exact ⟨some a, 0, 0, cap, (List.range len).map G, by rw [hLl]; exact hv, (fun h => by cases h), fun h => by rw [hLl] at h; omega, fun i hil => by rw [hLl] at hil; omega⟩
end
end Go.Proofs.YtmcfjlkjijaflaaDoor
