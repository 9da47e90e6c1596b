/-
  (made by gen_hbe.py: two cells an item) A binary heap in memory: a row of items in a field, and a map of places by number; what stores, puts and deletes make of it.
-/
import Derived.Test.YtiffgkmmibhklaaChecked
import Derived.Test.YtiffgkmmibhklaaGA
import Derived.Test.YtiffgkmmibhklaaGH
import Derived.Lib.Hide
import Derived.Maps.OwnSet
import Derived.Deep.QuietTactic
import Derived.BigQuiet
import Derived.Deep.RegionLaw
namespace Go.Proofs.Ytiffgkmmibhklaa.E
open Go.RowKit Go.Maps

theorem len2 : ∀ {l : List Value}, l.length = 2 → ∃ a b, l = [a, b]
  | [a, b], _ => ⟨a, b, rfl⟩
/-- Block b holds a heap: room m, the items L, in a row of blocks of type tE, their places f, by a map of at most s entries. -/
def HAt {α : Type} (tS tE : TypeId) (enc : Hm α → List Value) (w : World) (b : Nat) (X : List Nat) (m : Int) (L : List (Hm α)) (f : Int → Option Int) (s : Nat) : Prop :=
  ∃ g Y D, LAt tS tE 2 enc (fun v => #[.int .i64 m, v, .map (some g)]) w b Y L ∧ w.ownsMap Try.prog tN (plainElem (H := Unit) Try.prog tN) g (Maps.size D) D ∧ Maps.size D ≤ s ∧ ReadsF D f ∧ X = g :: Y

section
variable {α : Type} {tS tE : TypeId} {enc : Hm α → List Value} {w w' : World} {b : Nat} {X Y : List Nat} {m : Int} {L : List (Hm α)} {f : Int → Option Int} {s : Nat}
theorem HAt.keep (h : HAt tS tE enc w b X m L f s) (ht : Turned Y w w') (hd : ∀ k ∈ X, k ∉ Y) : HAt tS tE enc w' b X m L f s := by
  obtain ⟨g, Z, D, h1, h2, h3, h4, rfl⟩ := h
  exact ⟨g, Z, D, h1.keep ht (fun k hk => hd k (List.mem_cons_of_mem _ hk)), ownsMap_same h2 (ht.block g h2.lt (hd g (by simp))), h3, h4, rfl⟩
theorem HAt.lt (h : HAt tS tE enc w b X m L f s) : ∀ k ∈ X, k < w.heap.size := by
  obtain ⟨g, Z, D, h1, h2, h3, h4, rfl⟩ := h
  intro k hk
  rcases List.mem_cons.1 hk with rfl | hk
  · exact h2.lt
  · exact h1.lt k hk
theorem HAt.head (h : HAt tS tE enc w b X m L f s) : b ∈ X := by
  obtain ⟨g, Z, D, h1, h2, h3, h4, rfl⟩ := h
  exact List.mem_cons_of_mem _ h1.head
theorem HAt.drewN (h : HAt tS tE enc w b X m L f s) (n : Nat) : HAt tS tE enc (w.drewN n) b X m L f s := h
theorem HAt.mono (h : HAt tS tE enc w b X m L f s) {s' : Nat} (hs : s ≤ s') : HAt tS tE enc w b X m L f s' := by
  obtain ⟨g, Z, D, h1, h2, h3, h4, rfl⟩ := h
  exact ⟨g, Z, D, h1, h2, by omega, h4, rfl⟩

theorem cellsOf_set2 (hk : ∀ x, (enc x).length = 2) {u0 u1 : Value} {x : Hm α} (he : enc x = [u0, u1]) : ∀ (L : List (Hm α)) (j : Nat), j < L.length →
    cellsOf enc (L.set j x) = ((cellsOf enc L).set (j * 2) u0).set (j * 2 + 1) u1
  | s :: L, 0, _ => by
    obtain ⟨a, b, hs⟩ := len2 (hk s)
    simp [cellsOf, he, hs]
  | s :: L, j + 1, hj => by
    have ih := cellsOf_set2 hk he L j (by simpa using hj)
    obtain ⟨a, b, hs⟩ := len2 (hk s)
    have e0 : (j + 1) * 2 = (j * 2) + 1 + 1 := by omega
    have e1 : (j + 1) * 2 + 1 = (j * 2 + 1) + 1 + 1 := by omega
    rw [e1, e0]
    simp only [cellsOf, List.set_cons_succ, List.flatMap_cons, hs, List.cons_append, List.nil_append] at ih ⊢
    rw [ih]
/-- An item is stored. -/
theorem row_set2 {g n cap : Nat} (hk : ∀ x, (enc x).length = 2) (ho : w.ownsRow 0 tE 2 (.slice (some ⟨g, 0, none⟩) n cap) L.length (cellsOf enc L)) {j : Nat} (hj : j < L.length) {u0 u1 : Value} {x : Hm α} (he : enc x = [u0, u1]) :
    ((w.setCell ⟨g, j * 2, none⟩ u0).setCell ⟨g, j * 2 + 1, none⟩ u1).ownsRow 0 tE 2 (.slice (some ⟨g, 0, none⟩) n cap) (L.set j x).length (cellsOf enc (L.set j x)) := by
  have hn : n = L.length := by
    obtain ⟨_, _, h1, _⟩ := ownsRow_shape ho
    simp at h1
    exact h1.2.1
  subst hn
  rw [cellsOf_set2 hk he L j hj, List.length_set]
  exact ((ho.stored (j * 2) u0).1.stored (j * 2 + 1) u1).1
/-- .. the heap behind it. -/
theorem HAt.setItem {g gm cap : Nat} {D : DataW Unit} (hk : ∀ x, (enc x).length = 2) (hne : tS ≠ tE) (hb : w.heap[b]? = some (.cells #[.int .i64 m, .slice (some ⟨g, 0, none⟩) L.length cap, .map (some gm)] tS (0, 0)))
    (ho : w.ownsRow 0 tE 2 (.slice (some ⟨g, 0, none⟩) L.length cap) L.length (cellsOf enc L)) (hm : w.ownsMap Try.prog tN (plainElem (H := Unit) Try.prog tN) gm (Maps.size D) D) {j : Nat} (hj : j < L.length) {u0 u1 : Value} {x : Hm α} (he : enc x = [u0, u1]) :
    let w1 := (w.setCell ⟨g, j * 2, none⟩ u0).setCell ⟨g, j * 2 + 1, none⟩ u1
    w1.heap[b]? = some (.cells #[.int .i64 m, .slice (some ⟨g, 0, none⟩) L.length cap, .map (some gm)] tS (0, 0)) ∧
      w1.ownsRow 0 tE 2 (.slice (some ⟨g, 0, none⟩) L.length cap) L.length (cellsOf enc (L.set j x)) ∧ w1.ownsMap Try.prog tN (plainElem (H := Unit) Try.prog tN) gm (Maps.size D) D ∧ Turned [g] w w1 := by
  intro w1
  have hbg : b ≠ g := fun h => block_off hb ho hne (by simp [Value.ownBlock, h])
  have hgm : gm ≠ g := by
    obtain ⟨cur, hc⟩ := ownsRow_type ho g (by simp [Value.ownBlock])
    exact ownsMap_off hm hc
  refine ⟨?_, ?_, ?_, ?_⟩
  · exact (Below.heap_setCell _ _ _ _ hbg).trans ((Below.heap_setCell _ _ _ _ hbg).trans hb)
  · have := row_set2 hk ho hj he
    rwa [List.length_set] at this
  · exact ((hm.setCell hgm _).setCell hgm _)
  · exact ((Turned.refl [g] w).setCell (.inl (by simp)) _).setCell (.inl (by simp)) _
/-- .. and a place put. -/
theorem HAt.putPlace {g gm cap : Nat} {D : DataW Unit} (hb : w.heap[b]? = some (.cells #[.int .i64 m, .slice (some ⟨g, 0, none⟩) L.length cap, .map (some gm)] tS (0, 0)))
    (ho : w.ownsRow 0 tE 2 (.slice (some ⟨g, 0, none⟩) L.length cap) L.length (cellsOf enc L)) (hm : w.ownsMap Try.prog tN (plainElem (H := Unit) Try.prog tN) gm (Maps.size D) D) (hs : Maps.size D ≤ s) (hf : ReadsF D f) {i v : Int}
    (hm' : w'.ownsMap Try.prog tN (plainElem (H := Unit) Try.prog tN) gm (Maps.size D + 1) (D.put (litN i) (.lit (litN v)))) (ht : w.mapTurned w' gm) :
    HAt tS tE enc w' b [gm, b, g] m L (updF f i (some v)) (if (f i).isSome then s else s + 1) ∧ Turned [gm] w w' := by
  have hT : Turned [gm] w w' := Turned.grown (Turned.refl [gm] w) ht.grown (fun k hk => .inl (by cases hk; simp))
  refine ⟨⟨gm, [b, g], _, ⟨_, hT.same hb (by simp; exact (ownsMap_off hm hb).symm), ownsRow_same ho (fun k hk hl => hT.block k hl ?_), by simp [Value.ownBlock]⟩, ownsMap_tight hm', ?_, hf.put i v, rfl⟩, hT⟩
  · have := ownsMap_row hm ho
    simp only [List.mem_singleton]
    rintro rfl
    exact this hk
  · rw [size_put (hm.tidy lawN), hf.has i]
    split <;> omega
/-- .. or struck. -/
theorem HAt.delPlace {v : Value} {gm : Nat} {D : DataW Unit} (hb : w.heap[b]? = some (.cells #[.int .i64 m, v, .map (some gm)] tS (0, 0)))
    (ho : w.ownsRow 0 tE 2 v L.length (cellsOf enc L)) (hm : w.ownsMap Try.prog tN (plainElem (H := Unit) Try.prog tN) gm (Maps.size D) D) (hs : Maps.size D ≤ s + 1) (hf : ReadsF D f) {i u : Int} (hi : f i = some u)
    (hm' : w'.ownsMap Try.prog tN (plainElem (H := Unit) Try.prog tN) gm (Maps.size D) (D.del (litN i))) (ht : w.mapTurned w' gm) :
    HAt tS tE enc w' b (gm :: b :: v.ownBlock.toList) m L (updF f i none) s ∧ Turned [gm] w w' := by
  have hT : Turned [gm] w w' := Turned.grown (Turned.refl [gm] w) ht.grown (fun k hk => .inl (by cases hk; simp))
  refine ⟨⟨gm, _, _, ⟨_, hT.same hb (by simp; exact (ownsMap_off hm hb).symm), ownsRow_same ho (fun k hk hl => hT.block k hl ?_), rfl⟩, ownsMap_tight hm', ?_, hf.del i, rfl⟩, hT⟩
  · have := ownsMap_row hm ho
    simp only [List.mem_singleton]
    rintro rfl
    exact this hk
  · have h1 := size_del (k := litN i) (hm.tidy lawN)
    rw [hf.has i, hi] at h1
    simp at h1
    omega
end

end Go.Proofs.Ytiffgkmmibhklaa.E
