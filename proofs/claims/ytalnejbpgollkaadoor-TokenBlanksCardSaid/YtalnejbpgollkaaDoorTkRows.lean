/-
  From the walks of layer 9 to the rows: slices of words, opened to their cells; the library's table out of the row's condition; the witness.
-/
import Derived.Test.YtalnejbpgollkaaDoorArRow
import Derived.Test.YtalnejbpgollkaaDoorTie
import Derived.Test.YtalnejbpgollkaaDoorCards
import Derived.Test.YtalnejbpgollkaaDoorTkBlanksLaw
import Derived.Lib.LaidTab
import Derived.LaidMore
import Derived.Stop.Joined
import Derived.Stop.LaidErr
import Derived.SevenTiedAt
import Derived.SizedLaws
import Derived.ChangeMaps5
namespace Go.Proofs.YtalnejbpgollkaaDoor
open Go.ChangeShapes Go.WideShapes Go.ChangeAt Go.RowKit Go.Deep

theorem cut_at {cs : List Value} {j : Nat} {v : Value} (h : (cs.drop j).take 1 = [v]) : cs[j]? = some v := by
  have h1 : ((cs.drop j).take 1)[0]? = some v := by rw [h]; rfl
  rw [List.getElem?_take_of_lt (by omega), List.getElem?_drop] at h1
  simpa using h1

section
variable {H : Type} {enc : TypeId × Value → H} {P : Program} {w : World} {base : Nat} {spare : Nat → Bool} {held : Bool}
/-- A slice of structs of an integer, a text and two integers: its cells; the texts stand in the datum. -/
theorem open_words {t e : TypeId} {f0 f1 f2 f3 : Field} (ht : P.underlying t = some (.slice e)) (he : P.underlying e = some (.struct #[f0, f1, f2, f3])) (hC : P.cellsOf e = 4)
    (o0 : f0.offset = 0) (o1 : f1.offset = 1) (o2 : f2.offset = 2) (o3 : f3.offset = 3) (c0 : P.cellsOf f0.type = 1) (c1 : P.cellsOf f1.type = 1) (c2 : P.cellsOf f2.type = 1) (c3 : P.cellsOf f3.type = 1)
    (k0 : P.underlying f0.type = some (.int .i64)) (k1 : P.underlying f1.type = some .string) (k2 : P.underlying f2.type = some (.int .i64)) (k3 : P.underlying f3.type = some (.int .i64))
    {v : Value} {d : DataW H} {p : List MemPlace} {r : Reach} {b0 : Nat} (hok : Value.okWide P w r b0 t v) (h : DataW.Trod enc P w base spare held t v d p) :
    ∃ (ao : Option Addr) (b off cap : Nat) (L : List Wd), v = .slice ao L.length cap ∧ L.length ≤ maxLen ∧ WArg w ao b off L ∧
      ∀ bound : Nat, (∀ elems sp, d = .slice elems sp → ∀ parts bytes, DataW.agg parts ∈ elems → parts[1]? = some (.lit (.string bytes)) → bytes.length ≤ bound) → ∀ x ∈ L, x.2.1.length ≤ bound := by
  obtain ⟨fuel, hf⟩ := h
  obtain ⟨a', len', cap', rfl⟩ := okWide_slice ht hok
  rcases open_slice ht hf with ⟨hcs, _⟩ | ⟨a, len, cap, m, n, D, Pl, hcs, hb, hl, hm, hmm, hx, hi⟩
  · have hv : Value.slice a' len' cap' = .slice none 0 0 := by simpa [Value.cells] using hcs
    exact ⟨none, 0, 0, 0, [], hv, Nat.zero_le _, ⟨fun h => by simp at h, fun i h => by simp at h⟩, fun _ _ x hx => by simp at hx⟩
  · have hv : Value.slice a' len' cap' = .slice (some a) len cap := by simpa [Value.cells] using hcs
    have hlm : len ≤ m := by rw [hmm]; split <;> omega
    have each : ∀ i, ∃ x : Wd, i < len → (w.cell? (a.add (i * 4)) = some (.int .i64 x.1) ∧ w.cell? ((a.add (i * 4)).add 1) = some (.string ⟨x.2.1.toArray⟩) ∧ w.cell? ((a.add (i * 4)).add 2) = some (.int .i64 x.2.2.1) ∧ w.cell? ((a.add (i * 4)).add 3) = some (.int .i64 x.2.2.2)) ∧
        ∃ parts, D i = .agg parts ∧ parts[1]? = some (.lit (.string x.2.1)) := by
      intro i
      by_cases hil : i < len
      · obtain ⟨cs', hc, ht'⟩ := hi i (by omega)
        rw [hC] at hc
        obtain ⟨ys, n', hn', hy, hlen, hyl, hg⟩ := DataW.trod_struct he ht'
        simp only [List.size_toArray, List.length_cons, List.length_nil] at hyl
        obtain ⟨_, hcl, hat⟩ := World.cells?_some hc
        have t0 := hg 0 f0 rfl
        have t1 := hg 1 f1 rfl
        have t2 := hg 2 f2 rfl
        have t3 := hg 3 f3 rfl
        rw [o0, c0, List.getElem?_eq_getElem (by omega)] at t0
        rw [o1, c1, List.getElem?_eq_getElem (by omega)] at t1
        rw [o2, c2, List.getElem?_eq_getElem (by omega)] at t2
        rw [o3, c3, List.getElem?_eq_getElem (by omega)] at t3
        obtain ⟨x0, e0, _, _⟩ := DataW.trod_int k0 t0
        obtain ⟨x1, e1, q1, _⟩ := DataW.trod_string k1 t1
        obtain ⟨x2, e2, _, _⟩ := DataW.trod_int k2 t2
        obtain ⟨x3, e3, _, _⟩ := DataW.trod_int k3 t3
        have e0 := cut_at e0
        have e1 := cut_at e1
        have e2 := cut_at e2
        have e3 := cut_at e3
        refine ⟨(x0, x1.data.toList, x2, x3), fun _ => ⟨⟨?_, ?_, ?_, ?_⟩, ys.map (·.1), (Prod.mk.inj hy).1, ?_⟩⟩
        · have h0 := hat 0 (by omega)
          rw [e0] at h0
          have : a.add (i * 4) = (a.add (i * 4)).add 0 := by
            unfold Addr.add
            simp
          rw [this]
          exact h0
        · rw [hat 1 (by omega), e1, Lib.mk_data]
        · rw [hat 2 (by omega), e2]
        · rw [hat 3 (by omega), e3]
        · rw [List.getElem?_map, List.getElem?_eq_getElem (by omega), q1]
          rfl
      · exact ⟨(0, [], 0, 0), fun h => absurd h hil⟩
    obtain ⟨G, hG⟩ := Classical.axiomOfChoice each
    have hLl : ((List.range len).map G).length = len := by simp
    have hbound : ∀ bound : Nat, (∀ elems sp, d = .slice elems sp → ∀ parts bytes, DataW.agg parts ∈ elems → parts[1]? = some (.lit (.string bytes)) → bytes.length ≤ bound) → ∀ x ∈ (List.range len).map G, x.2.1.length ≤ bound := by
      intro bound hbd x hx1
      obtain ⟨i, hi1, rfl⟩ := List.mem_map.1 hx1
      have hil := List.mem_range.1 hi1
      obtain ⟨_, parts, hp1, hp2⟩ := hG i hil
      have hd := (Prod.mk.inj hx).1
      exact hbd _ _ hd parts _ (by rw [← hp1]; exact List.mem_map.2 ⟨i, List.mem_range.2 hil, rfl⟩) hp2
    by_cases h0 : 0 < len
    · obtain ⟨⟨c0, _⟩, _⟩ := hG 0 h0
      have ha0 : a.add (0 * 4) = a := by
        unfold Addr.add
        simp
      rw [ha0] at c0
      obtain ⟨b, off, rfl, hbl⟩ := spot_none c0
      refine ⟨_, b, off, cap, (List.range len).map G, by rw [hLl]; exact hv, by rw [hLl]; omega, ⟨fun _ => ⟨rfl, hbl⟩, fun i hil => ?_⟩, hbound⟩
      have hil' : i < len := by rw [hLl] at hil; exact hil
      obtain ⟨⟨g0, g1, g2, g3⟩, _⟩ := hG i hil'
      simp only [Addr.add_lit] at g0 g1 g2 g3
      simp only [List.getElem_map, List.getElem_range]
      exact ⟨g0, g1, g2, g3⟩
    · refine ⟨some a, 0, 0, cap, (List.range len).map G, by rw [hLl]; exact hv, by rw [hLl]; omega, ⟨fun h => by rw [hLl] at h; omega, fun i hil => by rw [hLl] at hil; omega⟩, hbound⟩

theorem weights_in {e : TypeId} : ∀ {l : List (DataW H)} {d : DataW H}, d ∈ l → ∀ n ∈ d.weights P e, n ∈ DataW.weightsAll P e l
  | a :: l, d, hd, n, hn => by
    simp only [DataW.weightsAll, List.mem_append]
    rcases List.mem_cons.1 hd with rfl | h
    · exact .inl hn
    · exact .inr (weights_in h n hn)
/-- The form's own reach, of a text in a struct in a slice. -/
theorem sized_word {ts : List TypeId} {ds : List (DataW H)} (h : (DataW.weightsEach P ts ds).all (· ≤ reachBytes) = true) {j : Nat} {t e : TypeId} {fs : Array Field} {f : Field} {elems sp parts : List (DataW H)} {bytes : List UInt8} (ht : ts[j]? = some t) (hd : ds[j]? = some (.slice elems sp))
    (hu : P.underlying t = some (.slice e)) (he : P.underlying e = some (.struct fs)) (hf : fs[1]? = some f) (hx : DataW.agg parts ∈ elems) (hp : parts[1]? = some (.lit (.string bytes))) : bytes.length ≤ reachBytes := by
  refine of_decide_eq_true (List.all_eq_true.1 h _ (DataW.weights_mem_each ht hd _ ?_))
  simp only [DataW.weights, hu, List.mem_cons, List.mem_append]
  refine .inr (.inl (weights_in hx _ ?_))
  simp only [DataW.weights, he]
  exact DataW.weights_mem_each (t := f.type) (by rw [List.getElem?_map, Array.getElem?_toList, hf]; rfl) hp _ (by simp [DataW.weights])
end

theorem u16_of_wf {x : Int} (h : (Lit.int .u16 x).wf = true) : 0 ≤ x ∧ x < 65536 := by
  simp [Lit.wf, IntKind.min, IntKind.max, IntKind.signed, IntKind.bits] at h
  omega
theorem reach_is : reachBytes = 140737488351232 := rfl

abbrev laidT : List (String × DataW Unit) := [("math/bits.deBruijn32tab", Rows.laid_math_bits_deBruijn32tab), ("math/bits.deBruijn64tab", Rows.laid_math_bits_deBruijn64tab), ("internal/strconv.uint64pow10", Rows.laid_internal_strconv_uint64pow10), ("strconv.ErrRange", Rows.laid_strconv_ErrRange), ("strconv.ErrSyntax", Rows.laid_strconv_ErrSyntax)]
theorem tab_data : (Rows.laid_internal_strconv_uint64pow10 : DataW Unit) = Lib.tabData .u64 Lib.pow10Tab := by kernel_rfl
theorem gTab : Tryd.prog.globalNamed "internal/strconv.uint64pow10" = some 0 := by kernel_rfl
theorem gTabType : (Tryd.prog.globals[0]?).map (·.type) = some 75 := by kernel_rfl
theorem cellsU : Tryd.prog.cellsOf 62 = 1 := by kernel_rfl
theorem cellsT : Tryd.prog.cellsOf 75 = 20 := by kernel_rfl
/-- The library's table, out of the row's condition. -/
theorem tab_of_laid {W : World} (h : laidMetH Tryd.prog laidT W) : TabOk W := by
  rw [MakeChecks.laidMetH_plain _ _ _ (by kernel_rfl)] at h
  unfold laidT at h
  have h2 := h.tail.tail
  rw [tab_data] at h2
  exact Lib.tabIs_of_head gTab gTabType Tryd.underlying75 Tryd.underlying62 cellsU cellsT h2
/-- The heap that the door's own run leaves meets the condition. -/
theorem door_met (os : Os) (args : Array Value) : laidMetH Tryd.prog laidT ((World.doorLaid Tryd.prog 62 os).forCall (fun _ _ => 0) ⟨#[], args, []⟩).memory :=
  laidMetH_of_parts3 (fuel := 8) (laidMet_of_run' 8 (by kernel_rfl) (by kernel_rfl)) (by kernel_rfl) (by kernel_rfl)
end Go.Proofs.YtalnejbpgollkaaDoor
