/-
  From a walk to a row: slices of heap's deeds and of uint64, opened to their cells.
-/
import Derived.Test.YthhdidcmiiglbaaArRow
namespace Go.Proofs.Ythhdidcmiiglbaa
open Go.ChangeShapes Go.WideShapes Go.ChangeAt Go.RowKit Go.Deep

section
variable {H : Type} {enc : TypeId × Value → H} {P : Program}
variable {w : World} {base : Nat} {spare : Nat → Bool} {held : Bool}

theorem cut_one {cs : List Value} {j : Nat} {v : Value} (h : (cs.drop j).take 1 = [v]) : cs[j]? = some v := by
  have h1 : ((cs.drop j).take 1)[0]? = some v := by rw [h]; rfl
  rw [List.getElem?_take_of_lt (by omega), List.getElem?_drop] at h1
  simpa using h1
theorem cut_two {cs : List Value} {j i : Nat} {v : Value} (hi : i < 2) (h : (((cs.drop j).take 2).drop i).take 1 = [v]) : cs[j + i]? = some v := by
  have h1 := cut_one h
  rw [List.getElem?_take_of_lt (by omega), List.getElem?_drop] at h1
  exact h1

theorem u8_of_wf {x : Int} (h : (Lit.int .u8 x).wf = true) : 0 ≤ x ∧ x ≤ 255 := by
  simp [Lit.wf, IntKind.min, IntKind.max, IntKind.signed, IntKind.bits] at h
  exact ⟨by omega, by omega⟩
theorem u64_of_wf {x : Int} (h : (Lit.int .u64 x).wf = true) : 0 ≤ x ∧ x ≤ 18446744073709551615 := by
  simp [Lit.wf, IntKind.min, IntKind.max, IntKind.signed, IntKind.bits] at h
  exact ⟨by omega, by omega⟩

/-- A slice of structs of a byte, a struct of a uint64 and an int, and an int: its cells. -/
theorem open_deeds4 {t e : TypeId} {f0 f1 f2 g0 g1 : Field} (ht : P.underlying t = some (.slice e)) (he : P.underlying e = some (.struct #[f0, f1, f2])) (hC : P.cellsOf e = 4)
    (o0 : f0.offset = 0) (o1 : f1.offset = 1) (o2 : f2.offset = 3) (c0 : P.cellsOf f0.type = 1) (c1 : P.cellsOf f1.type = 2) (c2 : P.cellsOf f2.type = 1) (hk : P.underlying f1.type = some (.struct #[g0, g1]))
    (q0 : g0.offset = 0) (q1 : g1.offset = 1) (d0 : P.cellsOf g0.type = 1) (d1 : P.cellsOf g1.type = 1)
    (k0 : P.underlying f0.type = some (.int .u8)) (k1 : P.underlying g0.type = some (.int .u64)) (k2 : P.underlying g1.type = some (.int .i64)) (k3 : P.underlying f2.type = some (.int .i64))
    {v : Value} {d : DataW H} {p : List MemPlace} {r : Reach} {b0 : Nat} (hok : Value.okWide P w r b0 t v) (h : DataW.Trod enc P w base spare held t v d p) :
    ∃ (ao : Option Addr) (b off n cap : Nat) (E : Nat → Int × Int × Int × Int), v = .slice ao n cap ∧ n ≤ maxLen ∧ (0 < n → ao = some ⟨b, off, none⟩ ∧ b < w.heap.size) ∧
      (∀ i, i < n → w.cell? ⟨b, off + i * 4, none⟩ = some (.int .u8 (E i).1) ∧ w.cell? ⟨b, off + i * 4 + 1, none⟩ = some (.int .u64 (E i).2.1) ∧ w.cell? ⟨b, off + i * 4 + 2, none⟩ = some (.int .i64 (E i).2.2.1) ∧ w.cell? ⟨b, off + i * 4 + 3, none⟩ = some (.int .i64 (E i).2.2.2)) ∧
      (∀ i, i < n → (Lit.int .u8 (E i).1).wf = true ∧ (Lit.int .u64 (E i).2.1).wf = true ∧ (Lit.int .i64 (E i).2.2.1).wf = true ∧ (Lit.int .i64 (E i).2.2.2).wf = true) := by
  obtain ⟨fuel, hf⟩ := h
  obtain ⟨a', len', cap', rfl⟩ := okWide_slice ht hok
  rcases open_slice ht hf with ⟨hcs, _⟩ | ⟨a, len, cap, m, n, D, Pl, hcs, hb, hl, hm, hmm, hx, hi⟩
  · have hv : Value.slice a' len' cap' = .slice none 0 0 := by simpa [Value.cells] using hcs
    exact ⟨none, 0, 0, 0, 0, fun _ => (0, 0, 0, 0), hv, Nat.zero_le _, fun h => by omega, fun i h => by omega, fun i h => by omega⟩
  · have hv : Value.slice a' len' cap' = .slice (some a) len cap := by simpa [Value.cells] using hcs
    have hlm : len ≤ m := by rw [hmm]; split <;> omega
    have each : ∀ i, ∃ x : Int × Int × Int × Int, i < len → (w.cell? (a.add (i * 4)) = some (.int .u8 x.1) ∧ w.cell? ((a.add (i * 4)).add 1) = some (.int .u64 x.2.1) ∧ w.cell? ((a.add (i * 4)).add 2) = some (.int .i64 x.2.2.1) ∧ w.cell? ((a.add (i * 4)).add 3) = some (.int .i64 x.2.2.2)) ∧
        ((Lit.int .u8 x.1).wf = true ∧ (Lit.int .u64 x.2.1).wf = true ∧ (Lit.int .i64 x.2.2.1).wf = true ∧ (Lit.int .i64 x.2.2.2).wf = true) := by
      intro i
      by_cases hil : i < len
      · obtain ⟨cs', hc, ht'⟩ := hi i (by omega)
        rw [hC] at hc
        obtain ⟨ys, n', hn', hy, hlen, hyl, hg⟩ := DataW.trod_struct he ht'
        simp only [List.size_toArray, List.length_cons, List.length_nil] at hyl
        obtain ⟨_, hcl, hat⟩ := World.cells?_some hc
        have t0 := hg 0 f0 rfl
        have t1 := hg 1 f1 rfl
        have t2 := hg 2 f2 rfl
        rw [o0, c0, List.getElem?_eq_getElem (by omega)] at t0
        rw [o1, c1, List.getElem?_eq_getElem (by omega)] at t1
        rw [o2, c2, List.getElem?_eq_getElem (by omega)] at t2
        obtain ⟨x0, e0, _, w0⟩ := DataW.trod_int k0 t0
        obtain ⟨x3, e3, _, w3⟩ := DataW.trod_int k3 t2
        obtain ⟨zs, n2, _, _, _, hzl, hz⟩ := DataW.trod_struct hk t1
        simp only [List.size_toArray, List.length_cons, List.length_nil] at hzl
        have s0 := hz 0 g0 rfl
        have s1 := hz 1 g1 rfl
        rw [q0, d0, List.getElem?_eq_getElem (by omega)] at s0
        rw [q1, d1, List.getElem?_eq_getElem (by omega)] at s1
        obtain ⟨x1, e1, _, w1⟩ := DataW.trod_int k1 s0
        obtain ⟨x2, e2, _, w2⟩ := DataW.trod_int k2 s1
        have e0 := cut_one e0
        have e1 := cut_two (by omega) e1
        have e2 := cut_two (by omega) e2
        have e3 := cut_one e3
        refine ⟨(x0, x1, x2, x3), fun _ => ⟨⟨?_, ?_, ?_, ?_⟩, w0, w1, w2, w3⟩⟩
        · have h0 := hat 0 (by omega)
          rw [e0] at h0
          have : a.add (i * 4) = (a.add (i * 4)).add 0 := by
            unfold Addr.add
            simp
          rw [this]
          exact h0
        · rw [hat 1 (by omega), e1]
        · rw [hat 2 (by omega), e2]
        · rw [hat 3 (by omega), e3]
      · exact ⟨(0, 0, 0, 0), fun h => absurd h hil⟩
    obtain ⟨G, hG⟩ := Classical.axiomOfChoice each
    by_cases h0 : 0 < len
    · obtain ⟨⟨c0, _⟩, _⟩ := hG 0 h0
      have ha0 : a.add (0 * 4) = a := by
        unfold Addr.add
        simp
      rw [ha0] at c0
      obtain ⟨b, off, rfl, hbl⟩ := spot_none c0
      refine ⟨_, b, off, len, cap, G, hv, by omega, fun _ => ⟨rfl, hbl⟩, fun i hil => ?_, fun i hil => (hG i hil).2⟩
      obtain ⟨⟨g0, g1, g2, g3⟩, _⟩ := hG i hil
      simp only [Addr.add_lit] at g0 g1 g2 g3
      exact ⟨g0, g1, g2, g3⟩
    · exact ⟨some a, 0, 0, len, cap, G, hv, by omega, fun h => absurd h h0, fun i hil => by omega, fun i hil => by omega⟩

/-- A slice of uint64: its cells. -/
theorem open_u64s {t e : TypeId} (ht : P.underlying t = some (.slice e)) (he : P.underlying e = some (.int .u64)) (hC : P.cellsOf e = 1)
    {v : Value} {d : DataW H} {p : List MemPlace} {r : Reach} {b0 : Nat} (hok : Value.okWide P w r b0 t v) (h : DataW.Trod enc P w base spare held t v d p) :
    ∃ (ao : Option Addr) (b off n cap : Nat) (F : Nat → Int), v = .slice ao n cap ∧ n ≤ maxLen ∧ (0 < n → ao = some ⟨b, off, none⟩ ∧ b < w.heap.size) ∧
      (∀ i, i < n → w.cell? ⟨b, off + i, none⟩ = some (.int .u64 (F i))) ∧ (∀ i, i < n → 0 ≤ F i ∧ F i ≤ 18446744073709551615) := by
  obtain ⟨fuel, hf⟩ := h
  obtain ⟨a', len', cap', rfl⟩ := okWide_slice ht hok
  rcases open_slice ht hf with ⟨hcs, _⟩ | ⟨a, len, cap, m, n, D, Pl, hcs, hb, hl, hm, hmm, hx, hi⟩
  · have hv : Value.slice a' len' cap' = .slice none 0 0 := by simpa [Value.cells] using hcs
    exact ⟨none, 0, 0, 0, 0, fun _ => 0, hv, Nat.zero_le _, fun h => by omega, fun i h => by omega, fun i h => by omega⟩
  · have hv : Value.slice a' len' cap' = .slice (some a) len cap := by simpa [Value.cells] using hcs
    have hlm : len ≤ m := by rw [hmm]; split <;> omega
    have each : ∀ i, ∃ x : Int, i < len → w.cell? (a.add i) = some (.int .u64 x) ∧ (Lit.int .u64 x).wf = true := by
      intro i
      by_cases hil : i < len
      · obtain ⟨cs', hc, ht'⟩ := hi i (by omega)
        rw [hC, Nat.mul_one] at hc
        obtain ⟨x, e0, _, w0⟩ := DataW.trod_int he ht'
        obtain ⟨_, hcl, hat⟩ := World.cells?_some hc
        refine ⟨x, fun _ => ⟨?_, w0⟩⟩
        have h0 := hat 0 (by omega)
        rw [e0] at h0
        have : a.add i = (a.add i).add 0 := by
          unfold Addr.add
          simp
        rw [this]
        exact h0
      · exact ⟨0, fun h => absurd h hil⟩
    obtain ⟨G, hG⟩ := Classical.axiomOfChoice each
    by_cases h0 : 0 < len
    · obtain ⟨c0, _⟩ := hG 0 h0
      have ha0 : a.add 0 = a := by
        unfold Addr.add
        simp
      rw [ha0] at c0
      obtain ⟨b, off, rfl, hbl⟩ := spot_none c0
      refine ⟨_, b, off, len, cap, G, hv, by omega, fun _ => ⟨rfl, hbl⟩, fun i hil => ?_, fun i hil => u64_of_wf (hG i hil).2⟩
      have g0 := (hG i hil).1
      simp only [Addr.add_lit] at g0
      exact g0
    · exact ⟨some a, 0, 0, len, cap, G, hv, by omega, fun h => absurd h h0, fun i hil => by omega, fun i hil => by omega⟩
end
end Go.Proofs.Ythhdidcmiiglbaa
