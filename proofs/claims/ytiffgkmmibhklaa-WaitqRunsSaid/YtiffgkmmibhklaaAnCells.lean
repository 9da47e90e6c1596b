/-
  Blocks of three and of four cells; a struct answered beside a bool. No program.
-/
import Derived.Test.YtiffgkmmibhklaaChecked
import Derived.Test.YtiffgkmmibhklaaGA
import Derived.Lib.Hide
import Derived.Deep.QuietTactic
import Derived.BigQuiet
import Derived.Deep.RegionLaw
import Derived.Laws.ResultCell
namespace Go.Proofs.Ytiffgkmmibhklaa
open Go.RowKit

/-- A node: its value, its ticket, the places ahead and behind. -/
abbrev Nd (α : Type) := α × Int × Int × Int

theorem cells3a {w : World} {b : Nat} {x y z : Value} {t : TypeId} (h : w.heap[b]? = some (.cells #[x, y, z] t (0, 0))) :
    w.cell? ⟨b, 0, none⟩ = some x ∧ w.cell? ⟨b, 1, none⟩ = some y ∧ w.cell? ⟨b, 2, none⟩ = some z ∧ ∀ i, w.frozen? ⟨b, i, none⟩ = false := by
  refine ⟨by simp [World.cell?, h], by simp [World.cell?, h], by simp [World.cell?, h], fun i => frozen_of_row w b i _ t h⟩
theorem cells4 {w : World} {b : Nat} {x y z u : Value} {t : TypeId} (h : w.heap[b]? = some (.cells #[x, y, z, u] t (0, 0))) :
    w.cell? ⟨b, 0, none⟩ = some x ∧ w.cell? ⟨b, 1, none⟩ = some y ∧ w.cell? ⟨b, 2, none⟩ = some z ∧ w.cell? ⟨b, 3, none⟩ = some u ∧ ∀ i, w.frozen? ⟨b, i, none⟩ = false := by
  refine ⟨by simp [World.cell?, h], by simp [World.cell?, h], by simp [World.cell?, h], by simp [World.cell?, h], fun i => frozen_of_row w b i _ t h⟩
theorem cells5 {w : World} {b : Nat} {x y z u v : Value} {t : TypeId} (h : w.heap[b]? = some (.cells #[x, y, z, u, v] t (0, 0))) :
    w.cell? ⟨b, 0, none⟩ = some x ∧ w.cell? ⟨b, 1, none⟩ = some y ∧ w.cell? ⟨b, 2, none⟩ = some z ∧ w.cell? ⟨b, 3, none⟩ = some u ∧ w.cell? ⟨b, 4, none⟩ = some v ∧ ∀ i, w.frozen? ⟨b, i, none⟩ = false := by
  refine ⟨by simp [World.cell?, h], by simp [World.cell?, h], by simp [World.cell?, h], by simp [World.cell?, h], by simp [World.cell?, h], fun i => frozen_of_row w b i _ t h⟩
theorem results_ct {fn : Func} {p u : Tmp} {ty : TypeId} (h : fn.results = #[.cell p ty, .tmp u]) (tmps : Array Value) (P : Program) (w : World) :
    (results fn tmps).run P w = ((asAddr (tmps.getD p undef)).run P w).andThen fun a w₁ => ((loadVar ty a).run P w₁).andThen fun x w₂ => .ok (.tuple #[x, tmps.getD u undef]) w₂ := by
  simp only [results, h]
  simp [Sem.run_bind, Result.andThen]
theorem results_c {fn : Func} {p : Tmp} {ty : TypeId} (h : fn.results = #[.cell p ty]) (tmps : Array Value) (P : Program) (w : World) :
    (results fn tmps).run P w = ((asAddr (tmps.getD p undef)).run P w).andThen fun a w₁ => (loadVar ty a).run P w₁ := by
  simp only [results, h]
  simp [Sem.run_bind, Result.andThen]
/-- Four cells stored one by one. -/
theorem stored4 {w : World} {B : Nat} {x y z u x' y' z' u' : Value} {t : TypeId} (h : w.heap[B]? = some (.cells #[x, y, z, u] t (0, 0))) :
    ((((w.setCell ⟨B, 0, none⟩ x').setCell ⟨B, 1, none⟩ y').setCell ⟨B, 2, none⟩ z').setCell ⟨B, 3, none⟩ u').heap[B]? = some (.cells #[x', y', z', u'] t (0, 0)) := by
  rw [heap_setCell_same _ _ _ _ _ _ (heap_setCell_same _ _ _ _ _ _ (heap_setCell_same _ _ _ _ _ _ (heap_setCell_same _ _ _ _ _ _ h)))]
  rfl
theorem Turned.set4 {w : World} {B : Nat} {X : List Nat} {a : World} (h : Turned X a w) (hB : B ∈ X ∨ a.heap.size ≤ B) (x' y' z' u' : Value) :
    Turned X a ((((w.setCell ⟨B, 0, none⟩ x').setCell ⟨B, 1, none⟩ y').setCell ⟨B, 2, none⟩ z').setCell ⟨B, 3, none⟩ u') :=
  (((h.setCell hB _).setCell hB _).setCell hB _).setCell hB _

theorem infoN : (Try.prog.info? 3).map (fun i => (i.zero, i.size, i.bytes)) = some (some (.int .i64 0), 1, 8) := by kernel_rfl
theorem five_new (w : World) (x y z u v : Value) (t : TypeId) : ∀ j q, [x, y, z, u, v][j]? = some q → (w.alloc (.cells #[x, y, z, u, v] t)).cell? ((⟨w.heap.size, 0, none⟩ : Addr).add j) = some q := by
  intro j q hj
  have hh := heap_alloc_new w (.cells #[x, y, z, u, v] t)
  rw [Addr.add_lit]
  simp only [World.cell?, hh]
  match j, hj with
  | 0, hj => simpa using hj
  | 1, hj => simpa using hj
  | 2, hj => simpa using hj
  | 3, hj => simpa using hj
  | 4, hj => simpa using hj
theorem four_new (w : World) (x y z u : Value) (t : TypeId) : ∀ j q, [x, y, z, u][j]? = some q → (w.alloc (.cells #[x, y, z, u] t)).cell? ((⟨w.heap.size, 0, none⟩ : Addr).add j) = some q := by
  intro j q hj
  have hh := heap_alloc_new w (.cells #[x, y, z, u] t)
  rw [Addr.add_lit]
  simp only [World.cell?, hh]
  match j, hj with
  | 0, hj => simpa using hj
  | 1, hj => simpa using hj
  | 2, hj => simpa using hj
  | 3, hj => simpa using hj
theorem one_cell_at (w : World) (B : Nat) (hB : w.heap.size = B) (x : Value) (t : TypeId) : ∀ j u, [x][j]? = some u → (w.alloc (.cells #[x] t)).cell? ((⟨B, 0, none⟩ : Addr).add j) = some u := by
  subst hB
  intro j u hj
  have hh := heap_alloc_new w (.cells #[x] t)
  rw [Addr.add_lit]
  simp only [World.cell?, hh]
  match j, hj with
  | 0, hj => simpa using hj

section
variable {α : Type} {tA tS : TypeId} {enc : α → List Value} {w : World} {b : Nat} {X : List Nat} {m : Int} {S : List (α × Bool)} {F : List Nat}
/-- Behind 'a.slots[j] = slot{v, t}', slots of five cells. -/
theorem ArAt.stored5 (hk : ∀ x, (enc x).length = 4) {g cap n : Nat} {fv : Value} (hn : n = S.length) (h1 : w.heap[b]? = some (.cells #[.int .i64 m, .slice (some ⟨g, 0, none⟩) n cap, fv] tA (0, 0))) (h2 : w.ownsRow 0 tS 5 (.slice (some ⟨g, 0, none⟩) n cap) n (slots enc S))
    (h3 : w.ownsRow 0 3 1 fv F.length (places F)) (n1 : tA ≠ tS) (n3 : tS ≠ 3) (j : Nat) (v : α) (t : Bool) {p q r s : Value} (he : enc v = [p, q, r, s]) :
    ArAt tA tS enc 4 (((((w.setCell ⟨g, j * 5, none⟩ p).setCell ⟨g, j * 5 + 1, none⟩ q).setCell ⟨g, j * 5 + 2, none⟩ r).setCell ⟨g, j * 5 + 3, none⟩ s).setCell ⟨g, j * 5 + 4, none⟩ (.bool t)) b (b :: ([g] ++ fv.ownBlock.toList)) m (S.set j (v, t)) F ∧
      Turned (b :: ([g] ++ fv.ownBlock.toList)) w (((((w.setCell ⟨g, j * 5, none⟩ p).setCell ⟨g, j * 5 + 1, none⟩ q).setCell ⟨g, j * 5 + 2, none⟩ r).setCell ⟨g, j * 5 + 3, none⟩ s).setCell ⟨g, j * 5 + 4, none⟩ (.bool t)) := by
  have hbg : b ≠ g := fun h => block_off h1 h2 n1 (by simp [Value.ownBlock, h])
  have hfg : fv.ownBlock ≠ some g := by
    rcases rows_off h3 h2 n3.symm with h | h
    · rw [h]; simp
    · simpa [Value.ownBlock] using h
  have s5 := (((((h2.stored (j * 5) p).1.stored (j * 5 + 1) q).1.stored (j * 5 + 2) r).1.stored (j * 5 + 3) s).1.stored (j * 5 + 4) (.bool t)).1
  have h3' := ownsRow_setCell_other (ownsRow_setCell_other (ownsRow_setCell_other (ownsRow_setCell_other (ownsRow_setCell_other h3 (a := ⟨g, j * 5, none⟩) hfg p) (a := ⟨g, j * 5 + 1, none⟩) hfg q) (a := ⟨g, j * 5 + 2, none⟩) hfg r) (a := ⟨g, j * 5 + 3, none⟩) hfg s) (a := ⟨g, j * 5 + 4, none⟩) hfg (.bool t)
  refine ⟨⟨.slice (some ⟨g, 0, none⟩) n cap, fv, ?_, ?_, h3', rfl⟩, ?_⟩
  · rw [Below.heap_setCell _ _ _ _ hbg, Below.heap_setCell _ _ _ _ hbg, Below.heap_setCell _ _ _ _ hbg, Below.heap_setCell _ _ _ _ hbg, Below.heap_setCell _ _ _ _ hbg]
    exact h1
  · rw [slots_set4 hk S j (v, t) p q r s he]
    subst hn
    simpa using s5
  · exact (((((Turned.refl _ w).setCell (.inl (by simp)) _).setCell (.inl (by simp)) _).setCell (.inl (by simp)) _).setCell (.inl (by simp)) _).setCell (.inl (by simp)) _
/-- Behind 'a.slots[j].value = v'. -/
theorem ArAt.stored4 (hk : ∀ x, (enc x).length = 4) {g cap n : Nat} {fv : Value} (hn : n = S.length) (h1 : w.heap[b]? = some (.cells #[.int .i64 m, .slice (some ⟨g, 0, none⟩) n cap, fv] tA (0, 0))) (h2 : w.ownsRow 0 tS 5 (.slice (some ⟨g, 0, none⟩) n cap) n (slots enc S))
    (h3 : w.ownsRow 0 3 1 fv F.length (places F)) (n1 : tA ≠ tS) (n3 : tS ≠ 3) (j : Nat) (v u : α) (t : Bool) (hj : S[j]? = some (u, t)) {p q r s : Value} (he : enc v = [p, q, r, s]) :
    ArAt tA tS enc 4 ((((w.setCell ⟨g, j * 5, none⟩ p).setCell ⟨g, j * 5 + 1, none⟩ q).setCell ⟨g, j * 5 + 2, none⟩ r).setCell ⟨g, j * 5 + 3, none⟩ s) b (b :: ([g] ++ fv.ownBlock.toList)) m (S.set j (v, t)) F ∧
      Turned (b :: ([g] ++ fv.ownBlock.toList)) w ((((w.setCell ⟨g, j * 5, none⟩ p).setCell ⟨g, j * 5 + 1, none⟩ q).setCell ⟨g, j * 5 + 2, none⟩ r).setCell ⟨g, j * 5 + 3, none⟩ s) := by
  have hbg : b ≠ g := fun h => block_off h1 h2 n1 (by simp [Value.ownBlock, h])
  have hfg : fv.ownBlock ≠ some g := by
    rcases rows_off h3 h2 n3.symm with h | h
    · rw [h]; simp
    · simpa [Value.ownBlock] using h
  have s4 := ((((h2.stored (j * 5) p).1.stored (j * 5 + 1) q).1.stored (j * 5 + 2) r).1.stored (j * 5 + 3) s).1
  have h3' := ownsRow_setCell_other (ownsRow_setCell_other (ownsRow_setCell_other (ownsRow_setCell_other h3 (a := ⟨g, j * 5, none⟩) hfg p) (a := ⟨g, j * 5 + 1, none⟩) hfg q) (a := ⟨g, j * 5 + 2, none⟩) hfg r) (a := ⟨g, j * 5 + 3, none⟩) hfg s
  refine ⟨⟨.slice (some ⟨g, 0, none⟩) n cap, fv, ?_, ?_, h3', rfl⟩, ?_⟩
  · rw [Below.heap_setCell _ _ _ _ hbg, Below.heap_setCell _ _ _ _ hbg, Below.heap_setCell _ _ _ _ hbg, Below.heap_setCell _ _ _ _ hbg]
    exact h1
  · have hl := (List.getElem?_eq_some_iff.1 hj).1
    have hg := slots_get (enc := enc) (k := 4) hk S j 4 hl (by omega)
    rw [(List.getElem?_eq_some_iff.1 hj).2, List.getElem?_append_right (by rw [hk]; omega), hk] at hg
    have e : (((((slots enc S).set (j * 5) p).set (j * 5 + 1) q).set (j * 5 + 2) r).set (j * 5 + 3) s).set (j * 5 + 4) (.bool t) = ((((slots enc S).set (j * 5) p).set (j * 5 + 1) q).set (j * 5 + 2) r).set (j * 5 + 3) s := by
      refine List.ext_getElem? fun i => ?_
      rw [List.getElem?_set]
      split
      · rename_i hi
        subst hi
        rw [List.getElem?_set_ne (by omega), List.getElem?_set_ne (by omega), List.getElem?_set_ne (by omega), List.getElem?_set_ne (by omega)]
        split
        · simpa using hg.symm
        · rename_i hlt
          rw [List.getElem?_eq_none (by simpa using hlt)]
      · rfl
    rw [slots_set4 hk S j (v, t) p q r s he, e]
    subst hn
    simpa using s4
  · exact ((((Turned.refl _ w).setCell (.inl (by simp)) _).setCell (.inl (by simp)) _).setCell (.inl (by simp)) _).setCell (.inl (by simp)) _
/-- What Put makes of slots and free places; where it puts; its error. -/
def anFull (m : Int) (S : List (α × Bool)) (F : List Nat) : Bool := decide ((S.length : Int) - F.length = m)
def anS (S : List (α × Bool)) (F : List Nat) (v : α) : List (α × Bool) := match F.getLast? with | none => S ++ [(v, true)] | some f => S.set f (v, true)
def anAt (S : List (α × Bool)) (F : List Nat) : Nat := match F.getLast? with | none => S.length | some f => f
end
end Go.Proofs.Ytiffgkmmibhklaa
