/-
  From a walk to a row: slices of deeds and of integers, opened to their cells; what a law's row asks of the world behind the call.
-/
import Derived.Test.YtaohihfhgialnaaRows
import Derived.WalkKit
import Derived.ProofKit
import Derived.OpenShut
import Derived.Deep.Slices
import Derived.Deep.Fields
import Derived.ChangeSame
namespace Go.Proofs.Ytaohihfhgialnaa
open Go.ChangeShapes Go.WideShapes Go.ChangeAt Go.RowKit Go.Deep

theorem own : ownKnob Try.prog.godebug = none := by kernel_rfl
theorem laidOut : laidOutB Try.prog = true := by kernel_rfl

section
variable {H : Type} {enc : TypeId × Value → H} {P : Program}
/-- All limbs of a row's end, where below the heap's old size the world is as it was. -/
theorem post_law {f : Func} {s : ChangeSpec} {apart fresh handsOn : Bool} {W W' : World} {args : Array Value} {v : Value} {ds gs : List (DataW H)} {before pa pv : List MemPlace}
    (hW : DataW.Whole enc P f.params.toList s.vars apart W args.toList ds gs before) (hb : Below W.heap.size W W')
    (hres : ∀ (b : Nat) (sp : Nat → Bool) (hd : Bool), DataW.TrodAll enc P W' b sp hd f.resultTypes.toList (v.resultList f.resultTypes.size) (s.fn H (ds ++ gs)).results [])
    (hargs : DataW.TrodAll enc P W' 0 (fun b => decide (b < W.heap.size)) true f.params.toList args.toList (s.fn H (ds ++ gs)).args pa)
    (hvars : DataW.TrodVars enc P W' (fun b => decide (b < W.heap.size)) s.vars (s.fn H (ds ++ gs)).vars pv) : s.post enc P f apart fresh handsOn false W args v W' := by
  exact ⟨ds, gs, before, [], pa, pv, hW, hres _ _ _, hargs, hvars, hb.frame _, fun h => by cases h⟩

variable {w : World} {base : Nat} {spare : Nat → Bool} {held : Bool}

theorem spot_none {w : World} {a : Addr} {v : Value} (h : w.cell? a = some v) : ∃ b off, a = ⟨b, off, none⟩ ∧ b < w.heap.size := by
  have hb := World.block_lt_of_cell? w a h
  obtain ⟨b, off, s⟩ := a
  cases s with
  | none => exact ⟨b, off, rfl, hb⟩
  | some s =>
    unfold World.cell? at h
    split at h <;> simp at h

theorem add_zero' (b off : Nat) : (⟨b, off, none⟩ : Addr).add 0 = ⟨b, off, none⟩ := by rw [Addr.add_lit, Nat.add_zero]

/-- A slice of structs of a byte and two integers: its cells. -/
theorem open_deeds {t e : TypeId} {f0 f1 f2 : Field} (ht : P.underlying t = some (.slice e)) (he : P.underlying e = some (.struct #[f0, f1, f2])) (hone : oneCellFields P #[f0, f1, f2] = true) (hC : P.cellsOf e = 3)
    (k0 : P.underlying f0.type = some (.int .u8)) (k1 : P.underlying f1.type = some (.int .i64)) (k2 : P.underlying f2.type = some (.int .i64)) {v : Value} {d : DataW H} {p : List MemPlace} {r : Reach} {b0 : Nat} (hok : Value.okWide P w r b0 t v) (h : DataW.Trod enc P w base spare held t v d p) :
    ∃ (ao : Option Addr) (b off n cap : Nat) (D : Nat → Int × Int × Int), v = .slice ao n cap ∧ n ≤ maxLen ∧ (0 < n → ao = some ⟨b, off, none⟩ ∧ b < w.heap.size) ∧
      ∀ i, i < n → w.cell? ⟨b, off + i * 3, none⟩ = some (.int .u8 (D i).1) ∧ w.cell? ⟨b, off + i * 3 + 1, none⟩ = some (.int .i64 (D i).2.1) ∧ w.cell? ⟨b, off + i * 3 + 2, none⟩ = some (.int .i64 (D i).2.2) := by
  obtain ⟨fuel, hf⟩ := h
  obtain ⟨a', len', cap', rfl⟩ := okWide_slice ht hok
  rcases open_slice ht hf with ⟨hcs, _⟩ | ⟨a, len, cap, m, n, D, Pl, hcs, hb, hl, hm, hmm, hx, hi⟩
  · have hv : Value.slice a' len' cap' = .slice none 0 0 := by simpa [Value.cells] using hcs
    exact ⟨none, 0, 0, 0, 0, fun _ => (0, 0, 0), hv, Nat.zero_le _, fun h => by omega, fun i h => by omega⟩
  · have hv : Value.slice a' len' cap' = .slice (some a) len cap := by simpa [Value.cells] using hcs
    have hlm : len ≤ m := by rw [hmm]; split <;> omega
    have each : ∀ i, ∃ x : Int × Int × Int, i < len → w.cell? (a.add (i * 3)) = some (.int .u8 x.1) ∧ w.cell? ((a.add (i * 3)).add 1) = some (.int .i64 x.2.1) ∧ w.cell? ((a.add (i * 3)).add 2) = some (.int .i64 x.2.2) := by
      intro i
      by_cases hil : i < len
      · obtain ⟨cs', hc, ht'⟩ := hi i (by omega)
        rw [hC] at hc
        obtain ⟨ys, n', hn', hy, hlen, hyl, hg⟩ := DataW.trod_struct he ht'
        obtain ⟨_, hcl, hat⟩ := World.cells?_some hc
        have field : ∀ (j : Nat) (f : Field) (k : IntKind), j < 3 → (#[f0, f1, f2] : Array Field)[j]? = some f → P.underlying f.type = some (.int k) → ∃ x : Int, cs'[j]? = some (.int k x) := by
          intro j f k hj hfj hk
          obtain ⟨ho, hone1⟩ := hone_of hone j f hfj
          have h1 := hg j f hfj
          rw [ho, hone1] at h1
          have hcj : j < cs'.length := by omega
          have hcut : (cs'.drop j).take 1 = [cs'[j]] := by
            rw [List.drop_eq_getElem_cons hcj]
            rfl
          have hjl : j < ys.length := by rw [hyl]; exact hj
          rw [hcut, List.getElem?_eq_getElem hjl] at h1
          obtain ⟨x, hx1, _, _⟩ := DataW.trod_int hk h1
          simp only [List.cons.injEq, and_true] at hx1
          exact ⟨x, by rw [List.getElem?_eq_getElem hcj, hx1]⟩
        obtain ⟨x0, e0⟩ := field 0 f0 .u8 (by omega) rfl k0
        obtain ⟨x1, e1⟩ := field 1 f1 .i64 (by omega) rfl k1
        obtain ⟨x2, e2⟩ := field 2 f2 .i64 (by omega) rfl k2
        refine ⟨(x0, x1, x2), fun _ => ⟨?_, ?_, ?_⟩⟩
        · have h0 := hat 0 (by omega)
          rw [e0] at h0
          obtain ⟨b, off, ha, _⟩ := spot_none h0
          have : a.add (i * 3) = (a.add (i * 3)).add 0 := by
            unfold Addr.add
            simp
          rw [this]
          exact h0
        · rw [hat 1 (by omega), e1]
        · rw [hat 2 (by omega), e2]
      · exact ⟨(0, 0, 0), fun h => absurd h hil⟩
    have hch := Classical.axiomOfChoice each
    obtain ⟨G, hG⟩ := hch
    by_cases h0 : 0 < len
    · obtain ⟨c0, _, _⟩ := hG 0 h0
      have ha0 : a.add (0 * 3) = a := by
        unfold Addr.add
        simp
      rw [ha0] at c0
      obtain ⟨b, off, rfl, hbl⟩ := spot_none c0
      refine ⟨_, b, off, len, cap, G, hv, by omega, fun _ => ⟨rfl, hbl⟩, fun i hil => ?_⟩
      obtain ⟨g0, g1, g2⟩ := hG i hil
      simp only [Addr.add_lit] at g0 g1 g2
      exact ⟨g0, g1, g2⟩
    · exact ⟨some a, 0, 0, len, cap, G, hv, by omega, fun h => absurd h h0, fun i hil => by omega⟩
end
end Go.Proofs.Ytaohihfhgialnaa
