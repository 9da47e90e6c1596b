/-
  Locks, opened to their cells; from the walks of layer 11 to the rows.
-/
import Derived.Test.YtmcfjlkjijaflaaPgRows
import Derived.Test.YtmcfjlkjijaflaaCrMoreW
import Derived.Test.YtmcfjlkjijaflaaCrChecks
namespace Go.Proofs.Ytmcfjlkjijaflaa
open Go.ChangeShapes Go.WideShapes Go.ChangeAt Go.RowKit Go.Deep

section
variable {H : Type} {enc : TypeId × Value → H} {P : Program} {w : World} {base : Nat} {spare : Nat → Bool} {held : Bool}
theorem open_locks {t e : TypeId} {f0 f1 f2 f3 f4 : Field} (ht : P.underlying t = some (.slice e)) (he : P.underlying e = some (.struct #[f0, f1, f2, f3, f4])) (hC : P.cellsOf e = 5)
    (o0 : f0.offset = 0) (o1 : f1.offset = 1) (o2 : f2.offset = 2) (o3 : f3.offset = 3) (o4 : f4.offset = 4) (c0 : P.cellsOf f0.type = 1) (c1 : P.cellsOf f1.type = 1) (c2 : P.cellsOf f2.type = 1) (c3 : P.cellsOf f3.type = 1) (c4 : P.cellsOf f4.type = 1)
    (k0 : P.underlying f0.type = some .bool) (k1 : P.underlying f1.type = some (.int .i64)) (k2 : P.underlying f2.type = some (.int .i64)) (k3 : P.underlying f3.type = some (.int .i64)) (k4 : P.underlying f4.type = some (.int .i64))
    {v : Value} {d : DataW H} {p : List MemPlace} {r : Reach} {b0 : Nat} (hok : Value.okWide P w r b0 t v) (h : DataW.Trod enc P w base spare held t v d p) :
    ∃ (ao : Option Addr) (b off cap : Nat) (L : List Lk), v = .slice ao L.length cap ∧ LArg w ao b off L := by
  obtain ⟨fuel, hf⟩ := h
  obtain ⟨a', len', cap', rfl⟩ := okWide_slice ht hok
  rcases open_slice ht hf with ⟨hcs, _⟩ | ⟨a, len, cap, m, n, D, Pl, hcs, hb, hl, hm, hmm, hx, hi⟩
  · have hv : Value.slice a' len' cap' = .slice none 0 0 := by simpa [Value.cells] using hcs
    exact ⟨none, 0, 0, 0, [], hv, ⟨fun h => by simp at h, fun i h => by simp at h⟩⟩
  · have hv : Value.slice a' len' cap' = .slice (some a) len cap := by simpa [Value.cells] using hcs
    have hlm : len ≤ m := by rw [hmm]; split <;> omega
    have each : ∀ i, ∃ x : Lk, i < len → w.cell? (a.add (i * 5)) = some (.bool x.1) ∧ w.cell? ((a.add (i * 5)).add 1) = some (.int .i64 x.2.1) ∧ w.cell? ((a.add (i * 5)).add 2) = some (.int .i64 x.2.2.1) ∧ w.cell? ((a.add (i * 5)).add 3) = some (.int .i64 x.2.2.2.1) ∧ w.cell? ((a.add (i * 5)).add 4) = some (.int .i64 x.2.2.2.2) := by
      intro i
      by_cases hil : i < len
      · obtain ⟨cs', hc, ht'⟩ := hi i (by omega)
        rw [hC] at hc
        obtain ⟨ys, n', hn', hy, hlen, hyl, hg⟩ := DataW.trod_struct he ht'
        simp only [List.size_toArray, List.length_cons, List.length_nil] at hyl
        obtain ⟨_, hcl, hat⟩ := World.cells?_some hc
        have t0 := hg 0 f0 rfl
        have t1 := hg 1 f1 rfl
        have t2 := hg 2 f2 rfl
        have t3 := hg 3 f3 rfl
        have t4 := hg 4 f4 rfl
        rw [o0, c0, List.getElem?_eq_getElem (by omega)] at t0
        rw [o1, c1, List.getElem?_eq_getElem (by omega)] at t1
        rw [o2, c2, List.getElem?_eq_getElem (by omega)] at t2
        rw [o3, c3, List.getElem?_eq_getElem (by omega)] at t3
        rw [o4, c4, List.getElem?_eq_getElem (by omega)] at t4
        obtain ⟨x0, e0, _⟩ := DataW.trod_bool k0 t0
        obtain ⟨x1, e1, _, _⟩ := DataW.trod_int k1 t1
        obtain ⟨x2, e2, _, _⟩ := DataW.trod_int k2 t2
        obtain ⟨x3, e3, _, _⟩ := DataW.trod_int k3 t3
        obtain ⟨x4, e4, _, _⟩ := DataW.trod_int k4 t4
        have e0 := cell_cut e0
        have e1 := cell_cut e1
        have e2 := cell_cut e2
        have e3 := cell_cut e3
        have e4 := cell_cut e4
        refine ⟨(x0, x1, x2, x3, x4), fun _ => ⟨?_, ?_, ?_, ?_, ?_⟩⟩
        · have h0 := hat 0 (by omega)
          rw [e0] at h0
          have : a.add (i * 5) = (a.add (i * 5)).add 0 := by
            unfold Addr.add
            simp
          rw [this]
          exact h0
        · rw [hat 1 (by omega), e1]
        · rw [hat 2 (by omega), e2]
        · rw [hat 3 (by omega), e3]
        · rw [hat 4 (by omega), e4]
      · exact ⟨(false, 0, 0, 0, 0), fun h => absurd h hil⟩
    obtain ⟨G, hG⟩ := Classical.axiomOfChoice each
    have hLl : ((List.range len).map G).length = len := by simp
    by_cases h0 : 0 < len
    · obtain ⟨c0, _⟩ := hG 0 h0
      have ha0 : a.add (0 * 5) = a := by
        unfold Addr.add
        simp
      rw [ha0] at c0
      obtain ⟨b, off, rfl, hbl⟩ := spot_none c0
      refine ⟨_, b, off, cap, (List.range len).map G, by rw [hLl]; exact hv, ⟨fun _ => ⟨rfl, hbl⟩, fun i hil => ?_⟩⟩
      have hil' : i < len := by rw [hLl] at hil; exact hil
      obtain ⟨g0, g1, g2, g3, g4⟩ := hG i hil'
      simp only [Addr.add_lit] at g0 g1 g2 g3 g4
      simp only [List.getElem_map, List.getElem_range]
      exact ⟨g0, g1, g2, g3, g4⟩
    · refine ⟨some a, 0, 0, cap, (List.range len).map G, by rw [hLl]; exact hv, ⟨fun h => by rw [hLl] at h; omega, fun i hil => by rw [hLl] at hil; omega⟩⟩
end
set_option maxRecDepth 100000 in
theorem open_l {H : Type} {enc : TypeId × Value → H} {w : World} {base : Nat} {spare : Nat → Bool} {held : Bool} {v : Value} {d : DataW H} {p : List MemPlace} {r : Reach} {b0 : Nat} (hok : Value.okWide Try.prog w r b0 25 v)
    (h : DataW.Trod enc Try.prog w base spare held 25 v d p) : ∃ (ao : Option Addr) (b off cap : Nat) (L : List Lk), v = .slice ao L.length cap ∧ LArg w ao b off L :=
  open_locks Try.underlying25 Try.underlying35 (by kernel_rfl) rfl rfl rfl rfl rfl (by kernel_rfl) (by kernel_rfl) (by kernel_rfl) (by kernel_rfl) (by kernel_rfl) Try.underlying4 Try.underlying3 Try.underlying3 Try.underlying3 Try.underlying3 hok h
set_option maxRecDepth 100000 in
theorem open_pr {H : Type} {enc : TypeId × Value → H} {w : World} {base : Nat} {spare : Nat → Bool} {held : Bool} {v : Value} {d : DataW H} {p : List MemPlace} {r : Reach} {b0 : Nat} (hok : Value.okWide Try.prog w r b0 24 v)
    (h : DataW.Trod enc Try.prog w base spare held 24 v d p) : ∃ (f : Bool) (ao : Option Addr) (b off cap : Nat) (L : List Opn), v = prgV f ao L.length cap ∧ L.length ≤ maxLen ∧ OArg w ao b off L ∧ ∀ x ∈ L, small x.1 :=
  open_prog Try.underlying24 (by kernel_rfl) rfl rfl (by kernel_rfl) (by kernel_rfl) Try.underlying4 Try.underlying22 Try.underlying38 (by kernel_rfl) rfl rfl rfl (by kernel_rfl) (by kernel_rfl) (by kernel_rfl) Try.underlying3 Try.underlying3 Try.underlying3 hok h
theorem u8_of_wf {x : Int} (h : (Lit.int .u8 x).wf = true) : 0 ≤ x ∧ x < 256 := by
  simp [Lit.wf, IntKind.min, IntKind.max, IntKind.signed, IntKind.bits] at h
  omega
end Go.Proofs.Ytmcfjlkjijaflaa
