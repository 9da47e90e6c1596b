/-
  The arguments of FifoRuns, opened to their cells.
-/
import Derived.Test.YtnoiifnknkakoaaArRow
namespace Go.Proofs.Ytnoiifnknkakoaa
open Go.ChangeShapes Go.WideShapes Go.ChangeAt Go.RowKit Go.Deep

theorem u8_low {x : Int} (h : (Lit.int .u8 x).wf = true) : 0 ≤ x ∧ x ≤ 255 := by
  simp [Lit.wf, IntKind.min, IntKind.max, IntKind.signed, IntKind.bits] at h
  exact ⟨by omega, by omega⟩
section
variable {H : Type} {enc : TypeId × Value → H} {P : Program} {w : World} {base : Nat} {spare : Nat → Bool} {held : Bool}
/-- A slice of structs of a byte, a bool and an integer: its cells. -/
theorem open_deeds5 {t e : TypeId} {f0 f1 f2 : Field} (ht : P.underlying t = some (.slice e)) (he : P.underlying e = some (.struct #[f0, f1, f2])) (hone : oneCellFields P #[f0, f1, f2] = true) (hC : P.cellsOf e = 3)
    (k0 : P.underlying f0.type = some (.int .u8)) (k1 : P.underlying f1.type = some .bool) (k2 : P.underlying f2.type = some (.int .i64)) {v : Value} {d : DataW H} {p : List MemPlace} {r : Reach} {b0 : Nat} (hok : Value.okWide P w r b0 t v) (h : DataW.Trod enc P w base spare held t v d p) :
    ∃ (ao : Option Addr) (b off n cap : Nat) (D : Nat → Int × Bool × Int), v = .slice ao n cap ∧ n ≤ maxLen ∧ (0 < n → ao = some ⟨b, off, none⟩ ∧ b < w.heap.size) ∧
      (∀ i, i < n → w.cell? ⟨b, off + i * 3, none⟩ = some (.int .u8 (D i).1) ∧ w.cell? ⟨b, off + i * 3 + 1, none⟩ = some (.bool (D i).2.1) ∧ w.cell? ⟨b, off + i * 3 + 2, none⟩ = some (.int .i64 (D i).2.2)) ∧ ∀ i, i < n → (Lit.int .u8 (D i).1).wf = true ∧ (Lit.int .i64 (D i).2.2).wf = true := by
  obtain ⟨fuel, hf⟩ := h
  obtain ⟨a', len', cap', rfl⟩ := okWide_slice ht hok
  rcases open_slice ht hf with ⟨hcs, _⟩ | ⟨a, len, cap, m, n, D, Pl, hcs, hb, hl, hm, hmm, hx, hi⟩
  · have hv : Value.slice a' len' cap' = .slice none 0 0 := by simpa [Value.cells] using hcs
    exact ⟨none, 0, 0, 0, 0, fun _ => (0, false, 0), hv, Nat.zero_le _, fun h => by omega, fun i h => by omega, fun i h => by omega⟩
  · have hv : Value.slice a' len' cap' = .slice (some a) len cap := by simpa [Value.cells] using hcs
    have hlm : len ≤ m := by rw [hmm]; split <;> omega
    have each : ∀ i, ∃ x : Int × Bool × Int, i < len → w.cell? (a.add (i * 3)) = some (.int .u8 x.1) ∧ w.cell? ((a.add (i * 3)).add 1) = some (.bool x.2.1) ∧ w.cell? ((a.add (i * 3)).add 2) = some (.int .i64 x.2.2) ∧ (Lit.int .u8 x.1).wf = true ∧ (Lit.int .i64 x.2.2).wf = true := by
      intro i
      by_cases hil : i < len
      · obtain ⟨cs', hc, ht'⟩ := hi i (by omega)
        rw [hC] at hc
        obtain ⟨ys, n', hn', hy, hlen, hyl, hg⟩ := DataW.trod_struct he ht'
        obtain ⟨_, hcl, hat⟩ := World.cells?_some hc
        have field : ∀ (j : Nat) (f : Field) (k : IntKind), j < 3 → (#[f0, f1, f2] : Array Field)[j]? = some f → P.underlying f.type = some (.int k) → ∃ x : Int, cs'[j]? = some (.int k x) ∧ (Lit.int k x).wf = true := by
          intro j f k hj hfj hk
          obtain ⟨ho, hone1⟩ := hone_of hone j f hfj
          have h1 := hg j f hfj
          rw [ho, hone1] at h1
          have hcj : j < cs'.length := by omega
          have hcut : (cs'.drop j).take 1 = [cs'[j]] := by
            rw [List.drop_eq_getElem_cons hcj]
            rfl
          have hjl : j < ys.length := by rw [hyl]; exact hj
          rw [hcut, List.getElem?_eq_getElem hjl] at h1
          obtain ⟨x, hx1, _, hx3⟩ := DataW.trod_int hk h1
          simp only [List.cons.injEq, and_true] at hx1
          exact ⟨x, by rw [List.getElem?_eq_getElem hcj, hx1], hx3⟩
        have fieldB : ∃ x : Bool, cs'[1]? = some (.bool x) := by
          obtain ⟨ho, hone1⟩ := hone_of hone 1 f1 rfl
          have h1 := hg 1 f1 rfl
          rw [ho, hone1] at h1
          have hcj : 1 < cs'.length := by omega
          have hcut : (cs'.drop 1).take 1 = [cs'[1]] := by
            rw [List.drop_eq_getElem_cons hcj]
            rfl
          have hjl : 1 < ys.length := by rw [hyl]; show 1 < 3; omega
          rw [hcut, List.getElem?_eq_getElem hjl] at h1
          obtain ⟨x, hx1, _⟩ := DataW.trod_bool k1 h1
          simp only [List.cons.injEq, and_true] at hx1
          exact ⟨x, by rw [List.getElem?_eq_getElem hcj, hx1]⟩
        obtain ⟨x0, e0, y0⟩ := field 0 f0 .u8 (by omega) rfl k0
        obtain ⟨x1, e1⟩ := fieldB
        obtain ⟨x2, e2, y2⟩ := field 2 f2 .i64 (by omega) rfl k2
        refine ⟨(x0, x1, x2), fun _ => ⟨?_, ?_, ?_, y0, y2⟩⟩
        · have h0 := hat 0 (by omega)
          rw [e0] at h0
          obtain ⟨b, off, ha, _⟩ := spot_none h0
          have : a.add (i * 3) = (a.add (i * 3)).add 0 := by
            unfold Addr.add
            simp
          rw [this]
          exact h0
        · rw [hat 1 (by omega), e1]
        · rw [hat 2 (by omega), e2]
      · exact ⟨(0, false, 0), fun h => absurd h hil⟩
    have hch := Classical.axiomOfChoice each
    obtain ⟨G, hG⟩ := hch
    by_cases h0 : 0 < len
    · obtain ⟨c0, _⟩ := hG 0 h0
      have ha0 : a.add (0 * 3) = a := by
        unfold Addr.add
        simp
      rw [ha0] at c0
      obtain ⟨b, off, rfl, hbl⟩ := spot_none c0
      refine ⟨_, b, off, len, cap, G, hv, by omega, fun _ => ⟨rfl, hbl⟩, fun i hil => ?_, fun i hil => (hG i hil).2.2.2⟩
      obtain ⟨g0, g1, g2, _⟩ := hG i hil
      simp only [Addr.add_lit] at g0 g1 g2
      exact ⟨g0, g1, g2⟩
    · exact ⟨some a, 0, 0, len, cap, G, hv, by omega, fun h => absurd h h0, fun i hil => by omega, fun i hil => by omega⟩
/-- An array of two integers, handed over by value. -/
theorem open_two {r : Reach} {b0 : Nat} {t e : TypeId} {v : Value} {d : DataW H} {p : List MemPlace} (ht : P.underlying t = some (.array 2 e)) (he : P.underlying e = some (.int .i64)) (hC : P.cellsOf t = 2) (hE : P.cellsOf e = 1)
    (hv : Value.okWide P w r b0 t v) (h : DataW.Trod enc P w base spare held t v d p) : ∃ x y : Int, v = .agg #[.int .i64 x, .int .i64 y] := by
  obtain ⟨cs, rfl, hsz⟩ : ∃ cs, v = .agg cs ∧ cs.size = P.cellsOf t := by
    have hv' := hv
    simp [Value.okWide, ht] at hv'
    obtain ⟨cs, h1, h2, _⟩ := hv'
    exact ⟨cs, h1, h2⟩
  obtain ⟨l⟩ := cs
  obtain ⟨fuel, hf⟩ := h
  obtain ⟨ys, m, _, hx, hlen, hyl, hg⟩ := DataW.trod_array ht hf
  have hl : l.length = 2 := by simpa [hC] using hsz
  have each : ∀ i (hi : i < 2), ∃ x : Int, l[i]'(by omega) = .int .i64 x := by
    intro i hi
    have h1 := hg i hi
    rw [hE, List.getElem?_eq_getElem (by omega)] at h1
    have hone : ((l.drop (i * 1)).take 1) = [l[i]'(by omega)] := by
      rw [Nat.mul_one, List.drop_eq_getElem_cons (by omega)]
      rfl
    have h2 : DataW.trod enc P w base spare held m e ((l.drop (i * 1)).take 1) = some (ys[i]'(by omega)) := h1
    rw [hone] at h2
    obtain ⟨x, hx1, _, _⟩ := DataW.trod_int he h2
    simp only [List.cons.injEq, and_true] at hx1
    exact ⟨x, hx1⟩
  match l, hl, each with
  | [u, z], _, each =>
    obtain ⟨x, hx⟩ := each 0 (by omega)
    obtain ⟨y, hy⟩ := each 1 (by omega)
    simp at hx hy
    exact ⟨x, y, by rw [hx, hy]⟩
end
end Go.Proofs.Ytnoiifnknkakoaa
