/-
  A program, opened to its cells.
-/
import Derived.Test.YtmcfjlkjijaflaaDoorArRow
import Derived.Test.YtmcfjlkjijaflaaDoorGR
namespace Go.Proofs.YtmcfjlkjijaflaaDoor
open Go.ChangeShapes Go.WideShapes Go.ChangeAt Go.RowKit Go.Deep

theorem cell_cut {cs : List Value} {j : Nat} {v : Value} (h : (cs.drop j).take 1 = [v]) : cs[j]? = some v := by
  have h1 : ((cs.drop j).take 1)[0]? = some v := by rw [h]; rfl
  rw [List.getElem?_take_of_lt (by omega), List.getElem?_drop] at h1
  simpa using h1
theorem small_of_wf {x : Int} (h : (Lit.int .i64 x).wf = true) : small x := by
  unfold small
  simp [Lit.wf, IntKind.min, IntKind.max, IntKind.signed, IntKind.bits] at h
  omega
section
variable {H : Type} {enc : TypeId × Value → H} {P : Program} {w : World} {base : Nat} {spare : Nat → Bool} {held : Bool}
theorem open_prog {tp e : TypeId} {g0 g1 f0 f1 f2 : Field} (hp : P.underlying tp = some (.struct #[g0, g1])) (hcp : P.cellsOf tp = 2) (q0 : g0.offset = 0) (q1 : g1.offset = 1) (d0 : P.cellsOf g0.type = 1) (d1 : P.cellsOf g1.type = 1)
    (kb : P.underlying g0.type = some .bool) (ht : P.underlying g1.type = some (.slice e)) (he : P.underlying e = some (.struct #[f0, f1, f2])) (hC : P.cellsOf e = 3)
    (o0 : f0.offset = 0) (o1 : f1.offset = 1) (o2 : f2.offset = 2) (c0 : P.cellsOf f0.type = 1) (c1 : P.cellsOf f1.type = 1) (c2 : P.cellsOf f2.type = 1)
    (k0 : P.underlying f0.type = some (.int .i64)) (k1 : P.underlying f1.type = some (.int .i64)) (k2 : P.underlying f2.type = some (.int .i64))
    {v : Value} {d : DataW H} {p : List MemPlace} {r : Reach} {b0 : Nat} (hok : Value.okWide P w r b0 tp v) (h : DataW.Trod enc P w base spare held tp v d p) :
    ∃ (f : Bool) (ao : Option Addr) (b off cap : Nat) (L : List Opn), v = prgV f ao L.length cap ∧ L.length ≤ maxLen ∧ OArg w ao b off L ∧ ∀ x ∈ L, small x.1 := by
  obtain ⟨fuel, hf⟩ := h
  obtain ⟨cv, rfl, hcv⟩ := okWide_struct hp hok
  rw [hcp] at hcv
  obtain ⟨ys, n', hn', hy, hlen, hyl, hg⟩ := DataW.trod_struct hp hf
  simp only [List.size_toArray, List.length_cons, List.length_nil] at hyl
  have t0 := hg 0 g0 rfl
  have t1 := hg 1 g1 rfl
  rw [q0, d0, List.getElem?_eq_getElem (by omega)] at t0
  rw [q1, d1, List.getElem?_eq_getElem (by omega)] at t1
  obtain ⟨fb, e0, _⟩ := DataW.trod_bool kb t0
  have e0 := cell_cut e0
  have shape : ∀ s : Value, (Value.agg cv).cells.toList[1]? = some s → Value.agg cv = .agg #[.bool fb, s] := by
    intro s hs
    obtain ⟨l⟩ := cv
    simp only [Value.cells] at e0 hs
    simp only [List.size_toArray] at hcv
    match l, hcv with
    | [u0, u1], _ =>
      simp only [List.getElem?_cons_zero, List.getElem?_cons_succ, Option.some.injEq] at e0 hs
      rw [e0, hs]
  rcases open_slice ht t1 with ⟨hcs, _⟩ | ⟨a, len, cap, m, n, D, Pl, hcs, hb, hl, hm, hmm, hx, hi⟩
  · exact ⟨fb, none, 0, 0, 0, [], shape _ (cell_cut hcs), Nat.zero_le _, ⟨fun h => by simp at h, fun i h => by simp at h⟩, fun x hx => by simp at hx⟩
  · have hv := shape _ (cell_cut hcs)
    have hlm : len ≤ m := by rw [hmm]; split <;> omega
    have each : ∀ i, ∃ x : Opn, i < len → (w.cell? (a.add (i * 3)) = some (.int .i64 x.1) ∧ w.cell? ((a.add (i * 3)).add 1) = some (.int .i64 x.2.1) ∧ w.cell? ((a.add (i * 3)).add 2) = some (.int .i64 x.2.2)) ∧ small x.1 := by
      intro i
      by_cases hil : i < len
      · obtain ⟨cs', hc, ht'⟩ := hi i (by omega)
        rw [hC] at hc
        obtain ⟨ys, n', hn', hy, hlen, hyl, hg⟩ := DataW.trod_struct he ht'
        simp only [List.size_toArray, List.length_cons, List.length_nil] at hyl
        obtain ⟨_, hcl, hat⟩ := World.cells?_some hc
        have t0 := hg 0 f0 rfl
        have t1 := hg 1 f1 rfl
        have t2 := hg 2 f2 rfl
        rw [o0, c0, List.getElem?_eq_getElem (by omega)] at t0
        rw [o1, c1, List.getElem?_eq_getElem (by omega)] at t1
        rw [o2, c2, List.getElem?_eq_getElem (by omega)] at t2
        obtain ⟨x0, e0, _, w0⟩ := DataW.trod_int k0 t0
        obtain ⟨x1, e1, _, _⟩ := DataW.trod_int k1 t1
        obtain ⟨x2, e2, _, _⟩ := DataW.trod_int k2 t2
        have e0 := cell_cut e0
        have e1 := cell_cut e1
        have e2 := cell_cut e2
        refine ⟨(x0, x1, x2), fun _ => ⟨⟨?_, ?_, ?_⟩, small_of_wf w0⟩⟩
        · have h0 := hat 0 (by omega)
          rw [e0] at h0
          have : a.add (i * 3) = (a.add (i * 3)).add 0 := by
            unfold Addr.add
            simp
          rw [this]
          exact h0
        · rw [hat 1 (by omega), e1]
        · rw [hat 2 (by omega), e2]
      · exact ⟨(0, 0, 0), fun h => absurd h hil⟩
    obtain ⟨G, hG⟩ := Classical.axiomOfChoice each
    have hLl : ((List.range len).map G).length = len := by simp
    have hsm : ∀ x ∈ (List.range len).map G, small x.1 := by
      intro x hx1
      obtain ⟨i, hi1, rfl⟩ := List.mem_map.1 hx1
      exact (hG i (List.mem_range.1 hi1)).2
    by_cases h0 : 0 < len
    · obtain ⟨⟨c0, _⟩, _⟩ := hG 0 h0
      have ha0 : a.add (0 * 3) = a := by
        unfold Addr.add
        simp
      rw [ha0] at c0
      obtain ⟨b, off, rfl, hbl⟩ := spot_none c0
      refine ⟨fb, _, b, off, cap, (List.range len).map G, by rw [hLl]; exact hv, by rw [hLl]; omega, ⟨fun _ => ⟨rfl, hbl⟩, fun i hil => ?_⟩, hsm⟩
      have hil' : i < len := by rw [hLl] at hil; exact hil
      obtain ⟨⟨g0, g1, g2⟩, _⟩ := hG i hil'
      simp only [Addr.add_lit] at g0 g1 g2
      simp only [List.getElem_map, List.getElem_range]
      exact ⟨g0, g1, g2⟩
    · refine ⟨fb, some a, 0, 0, cap, (List.range len).map G, by rw [hLl]; exact hv, by rw [hLl]; omega, ⟨fun h => by rw [hLl] at h; omega, fun i hil => by rw [hLl] at hil; omega⟩, hsm⟩
end
end Go.Proofs.YtmcfjlkjijaflaaDoor
