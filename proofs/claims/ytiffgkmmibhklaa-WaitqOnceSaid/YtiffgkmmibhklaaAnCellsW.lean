/-
  Blocks of six cells, slots of seven: an arena of nodes that hold three cells. No program.
-/
import Derived.Test.YtiffgkmmibhklaaAnCells
import Derived.Test.YtiffgkmmibhklaaWqRef
namespace Go.Proofs.Ytiffgkmmibhklaa
open Go.RowKit

theorem cells6 {w : World} {b : Nat} {x0 x1 x2 x3 x4 x5 : Value} {t : TypeId} (h : w.heap[b]? = some (.cells #[x0, x1, x2, x3, x4, x5] t (0, 0))) :
    w.cell? ⟨b, 0, none⟩ = some x0 ∧ w.cell? ⟨b, 1, none⟩ = some x1 ∧ w.cell? ⟨b, 2, none⟩ = some x2 ∧ w.cell? ⟨b, 3, none⟩ = some x3 ∧ w.cell? ⟨b, 4, none⟩ = some x4 ∧ w.cell? ⟨b, 5, none⟩ = some x5 ∧ ∀ i, w.frozen? ⟨b, i, none⟩ = false := by
  refine ⟨by simp [World.cell?, h], by simp [World.cell?, h], by simp [World.cell?, h], by simp [World.cell?, h], by simp [World.cell?, h], by simp [World.cell?, h], fun i => frozen_of_row w b i _ t h⟩
/-- Six cells stored one by one. -/
theorem stored6 {w : World} {B : Nat} {o0 o1 o2 o3 o4 o5 a' b' c' y' z' u' : Value} {t : TypeId} (h : w.heap[B]? = some (.cells #[o0, o1, o2, o3, o4, o5] t (0, 0))) :
    ((((((w.setCell ⟨B, 0, none⟩ a').setCell ⟨B, 1, none⟩ b').setCell ⟨B, 2, none⟩ c').setCell ⟨B, 3, none⟩ y').setCell ⟨B, 4, none⟩ z').setCell ⟨B, 5, none⟩ u').heap[B]? = some (.cells #[a', b', c', y', z', u'] t (0, 0)) := by
  rw [heap_setCell_same _ _ _ _ _ _ (heap_setCell_same _ _ _ _ _ _ (heap_setCell_same _ _ _ _ _ _ (heap_setCell_same _ _ _ _ _ _ (heap_setCell_same _ _ _ _ _ _ (heap_setCell_same _ _ _ _ _ _ h)))))]
  rfl
theorem Turned.set6 {w : World} {B : Nat} {X : List Nat} {a : World} (h : Turned X a w) (hB : B ∈ X ∨ a.heap.size ≤ B) (a' b' c' y' z' u' : Value) :
    Turned X a ((((((w.setCell ⟨B, 0, none⟩ a').setCell ⟨B, 1, none⟩ b').setCell ⟨B, 2, none⟩ c').setCell ⟨B, 3, none⟩ y').setCell ⟨B, 4, none⟩ z').setCell ⟨B, 5, none⟩ u') :=
  ((((((h.setCell hB _).setCell hB _).setCell hB _).setCell hB _).setCell hB _).setCell hB _)
theorem six_new (w : World) (x0 x1 x2 x3 x4 x5 : Value) (t : TypeId) : ∀ j q, [x0, x1, x2, x3, x4, x5][j]? = some q → (w.alloc (.cells #[x0, x1, x2, x3, x4, x5] t)).cell? ((⟨w.heap.size, 0, none⟩ : Addr).add j) = some q := by
  intro j q hj
  have hh := heap_alloc_new w (.cells #[x0, x1, x2, x3, x4, x5] t)
  rw [Addr.add_lit]
  simp only [World.cell?, hh]
  match j, hj with
  | 0, hj => simpa using hj
  | 1, hj => simpa using hj
  | 2, hj => simpa using hj
  | 3, hj => simpa using hj
  | 4, hj => simpa using hj
  | 5, hj => simpa using hj
theorem seven_new (w : World) (x0 x1 x2 x3 x4 x5 x6 : Value) (t : TypeId) : ∀ j q, [x0, x1, x2, x3, x4, x5, x6][j]? = some q → (w.alloc (.cells #[x0, x1, x2, x3, x4, x5, x6] t)).cell? ((⟨w.heap.size, 0, none⟩ : Addr).add j) = some q := by
  intro j q hj
  have hh := heap_alloc_new w (.cells #[x0, x1, x2, x3, x4, x5, x6] t)
  rw [Addr.add_lit]
  simp only [World.cell?, hh]
  match j, hj with
  | 0, hj => simpa using hj
  | 1, hj => simpa using hj
  | 2, hj => simpa using hj
  | 3, hj => simpa using hj
  | 4, hj => simpa using hj
  | 5, hj => simpa using hj
  | 6, hj => simpa using hj
/-- The cells of a slot of seven cells, stored one by one. -/
theorem slots_set6 {α : Type} {enc : α → List Value} (hk : ∀ x, (enc x).length = 6) : ∀ (S : List (α × Bool)) (j : Nat) (x : α × Bool) (a b c d e f : Value), enc x.1 = [a, b, c, d, e, f] → slots enc (S.set j x) =
    (((((((slots enc S).set (j * 7) a).set (j * 7 + 1) b).set (j * 7 + 2) c).set (j * 7 + 3) d).set (j * 7 + 4) e).set (j * 7 + 5) f).set (j * 7 + 6) (.bool x.2)
  | [], j, x, a, b, c, d, e, f, _ => by simp [slots]
  | s :: S, 0, x, a, b, c, d, e, f, he => by
    obtain ⟨p, q, r, t, y, z, hs⟩ : ∃ p q r t y z, enc s.1 = [p, q, r, t, y, z] := by
      have := hk s.1
      match h : enc s.1, this with
      | [p, q, r, t, y, z], _ => exact ⟨p, q, r, t, y, z, rfl⟩
    simp [slots, he, hs]
  | s :: S, j + 1, x, a, b, c, d, e, f, he => by
    obtain ⟨p, q, r, t, y, z, hs⟩ : ∃ p q r t y z, enc s.1 = [p, q, r, t, y, z] := by
      have := hk s.1
      match h : enc s.1, this with
      | [p, q, r, t, y, z], _ => exact ⟨p, q, r, t, y, z, rfl⟩
    have ih := slots_set6 hk S j x a b c d e f he
    have h1 : (j + 1) * 7 = j * 7 + 1 + 1 + 1 + 1 + 1 + 1 + 1 := by omega
    simp only [slots, List.flatMap_cons, List.set_cons_succ, hs, List.cons_append, List.nil_append, h1] at ih ⊢
    rw [ih]
section
variable {α : Type} {tA tS : TypeId} {enc : α → List Value} {w : World} {b : Nat} {m : Int} {S : List (α × Bool)} {F : List Nat}
theorem ArAt.stored7 (hk : ∀ x, (enc x).length = 6) {g cap n : Nat} {fv : Value} (hn : n = S.length) (h1 : w.heap[b]? = some (.cells #[.int .i64 m, .slice (some ⟨g, 0, none⟩) n cap, fv] tA (0, 0))) (h2 : w.ownsRow 0 tS 7 (.slice (some ⟨g, 0, none⟩) n cap) n (slots enc S))
    (h3 : w.ownsRow 0 3 1 fv F.length (places F)) (n1 : tA ≠ tS) (n3 : tS ≠ 3) (j : Nat) (v : α) (t : Bool) {p0 p1 p2 p3 p4 p5 : Value} (he : enc v = [p0, p1, p2, p3, p4, p5]) :
    ArAt tA tS enc 6 (((((((w.setCell ⟨g, j * 7, none⟩ p0).setCell ⟨g, j * 7 + 1, none⟩ p1).setCell ⟨g, j * 7 + 2, none⟩ p2).setCell ⟨g, j * 7 + 3, none⟩ p3).setCell ⟨g, j * 7 + 4, none⟩ p4).setCell ⟨g, j * 7 + 5, none⟩ p5).setCell ⟨g, j * 7 + 6, none⟩ (.bool t)) b (b :: ([g] ++ fv.ownBlock.toList)) m (S.set j (v, t)) F ∧
      Turned (b :: ([g] ++ fv.ownBlock.toList)) w (((((((w.setCell ⟨g, j * 7, none⟩ p0).setCell ⟨g, j * 7 + 1, none⟩ p1).setCell ⟨g, j * 7 + 2, none⟩ p2).setCell ⟨g, j * 7 + 3, none⟩ p3).setCell ⟨g, j * 7 + 4, none⟩ p4).setCell ⟨g, j * 7 + 5, none⟩ p5).setCell ⟨g, j * 7 + 6, none⟩ (.bool t)) := by
  have hbg : b ≠ g := fun h => block_off h1 h2 n1 (by simp [Value.ownBlock, h])
  have hfg : fv.ownBlock ≠ some g := by
    rcases rows_off h3 h2 n3.symm with h | h
    · rw [h]; simp
    · simpa [Value.ownBlock] using h
  have s5 := (((((((h2.stored (j * 7) p0).1.stored (j * 7 + 1) p1).1.stored (j * 7 + 2) p2).1.stored (j * 7 + 3) p3).1.stored (j * 7 + 4) p4).1.stored (j * 7 + 5) p5).1.stored (j * 7 + 6) (.bool t)).1
  have h3' := ownsRow_setCell_other (ownsRow_setCell_other (ownsRow_setCell_other (ownsRow_setCell_other (ownsRow_setCell_other (ownsRow_setCell_other (ownsRow_setCell_other h3 (a := ⟨g, j * 7, none⟩) hfg p0) (a := ⟨g, j * 7 + 1, none⟩) hfg p1) (a := ⟨g, j * 7 + 2, none⟩) hfg p2) (a := ⟨g, j * 7 + 3, none⟩) hfg p3) (a := ⟨g, j * 7 + 4, none⟩) hfg p4) (a := ⟨g, j * 7 + 5, none⟩) hfg p5) (a := ⟨g, j * 7 + 6, none⟩) hfg (.bool t)
  refine ⟨⟨.slice (some ⟨g, 0, none⟩) n cap, fv, ?_, ?_, h3', rfl⟩, ?_⟩
  · rw [Below.heap_setCell _ _ _ _ hbg, Below.heap_setCell _ _ _ _ hbg, Below.heap_setCell _ _ _ _ hbg, Below.heap_setCell _ _ _ _ hbg, Below.heap_setCell _ _ _ _ hbg, Below.heap_setCell _ _ _ _ hbg, Below.heap_setCell _ _ _ _ hbg]
    exact h1
  · rw [slots_set6 hk S j (v, t) p0 p1 p2 p3 p4 p5 he]
    subst hn
    simpa using s5
  · exact (((((((Turned.refl _ w).setCell (.inl (by simp)) _).setCell (.inl (by simp)) _).setCell (.inl (by simp)) _).setCell (.inl (by simp)) _).setCell (.inl (by simp)) _).setCell (.inl (by simp)) _).setCell (.inl (by simp)) _
end
section
variable {α : Type} {tA tS : TypeId} {enc : α → List Value} {w : World} {b : Nat} {m : Int} {S : List (α × Bool)} {F : List Nat}
theorem ArAt.stored6 (hk : ∀ x, (enc x).length = 6) {g cap n : Nat} {fv : Value} (hn : n = S.length) (h1 : w.heap[b]? = some (.cells #[.int .i64 m, .slice (some ⟨g, 0, none⟩) n cap, fv] tA (0, 0))) (h2 : w.ownsRow 0 tS 7 (.slice (some ⟨g, 0, none⟩) n cap) n (slots enc S))
    (h3 : w.ownsRow 0 3 1 fv F.length (places F)) (n1 : tA ≠ tS) (n3 : tS ≠ 3) (j : Nat) (v u : α) (t : Bool) (hj : S[j]? = some (u, t)) {p0 p1 p2 p3 p4 p5 : Value} (he : enc v = [p0, p1, p2, p3, p4, p5]) :
    ArAt tA tS enc 6 ((((((w.setCell ⟨g, j * 7, none⟩ p0).setCell ⟨g, j * 7 + 1, none⟩ p1).setCell ⟨g, j * 7 + 2, none⟩ p2).setCell ⟨g, j * 7 + 3, none⟩ p3).setCell ⟨g, j * 7 + 4, none⟩ p4).setCell ⟨g, j * 7 + 5, none⟩ p5) b (b :: ([g] ++ fv.ownBlock.toList)) m (S.set j (v, t)) F ∧
      Turned (b :: ([g] ++ fv.ownBlock.toList)) w ((((((w.setCell ⟨g, j * 7, none⟩ p0).setCell ⟨g, j * 7 + 1, none⟩ p1).setCell ⟨g, j * 7 + 2, none⟩ p2).setCell ⟨g, j * 7 + 3, none⟩ p3).setCell ⟨g, j * 7 + 4, none⟩ p4).setCell ⟨g, j * 7 + 5, none⟩ p5) := by
  have hbg : b ≠ g := fun h => block_off h1 h2 n1 (by simp [Value.ownBlock, h])
  have hfg : fv.ownBlock ≠ some g := by
    rcases rows_off h3 h2 n3.symm with h | h
    · rw [h]; simp
    · simpa [Value.ownBlock] using h
  have s5 := ((((((h2.stored (j * 7) p0).1.stored (j * 7 + 1) p1).1.stored (j * 7 + 2) p2).1.stored (j * 7 + 3) p3).1.stored (j * 7 + 4) p4).1.stored (j * 7 + 5) p5).1
  have h3' := ownsRow_setCell_other (ownsRow_setCell_other (ownsRow_setCell_other (ownsRow_setCell_other (ownsRow_setCell_other (ownsRow_setCell_other h3 (a := ⟨g, j * 7, none⟩) hfg p0) (a := ⟨g, j * 7 + 1, none⟩) hfg p1) (a := ⟨g, j * 7 + 2, none⟩) hfg p2) (a := ⟨g, j * 7 + 3, none⟩) hfg p3) (a := ⟨g, j * 7 + 4, none⟩) hfg p4) (a := ⟨g, j * 7 + 5, none⟩) hfg p5
  refine ⟨⟨.slice (some ⟨g, 0, none⟩) n cap, fv, ?_, ?_, h3', rfl⟩, ?_⟩
  · rw [Below.heap_setCell _ _ _ _ hbg, Below.heap_setCell _ _ _ _ hbg, Below.heap_setCell _ _ _ _ hbg, Below.heap_setCell _ _ _ _ hbg, Below.heap_setCell _ _ _ _ hbg, Below.heap_setCell _ _ _ _ hbg]
    exact h1
  · have hl := (List.getElem?_eq_some_iff.1 hj).1
    have hg := slots_get (enc := enc) (k := 6) hk S j 6 hl (by omega)
    rw [(List.getElem?_eq_some_iff.1 hj).2, List.getElem?_append_right (by rw [hk]; omega), hk] at hg
    have e : (((((((slots enc S).set (j * 7) p0).set (j * 7 + 1) p1).set (j * 7 + 2) p2).set (j * 7 + 3) p3).set (j * 7 + 4) p4).set (j * 7 + 5) p5).set (j * 7 + 6) (.bool t) = ((((((slots enc S).set (j * 7) p0).set (j * 7 + 1) p1).set (j * 7 + 2) p2).set (j * 7 + 3) p3).set (j * 7 + 4) p4).set (j * 7 + 5) p5 := by
      refine List.ext_getElem? fun i => ?_
      rw [List.getElem?_set]
      split
      · rename_i hi
        subst hi
        rw [List.getElem?_set_ne (by omega), List.getElem?_set_ne (by omega), List.getElem?_set_ne (by omega), List.getElem?_set_ne (by omega), List.getElem?_set_ne (by omega), List.getElem?_set_ne (by omega)]
        split
        · simpa using hg.symm
        · rename_i hlt
          rw [List.getElem?_eq_none (by simpa using hlt)]
      · rfl
    rw [slots_set6 hk S j (v, t) p0 p1 p2 p3 p4 p5 he, e]
    subst hn
    simpa using s5
  · exact ((((((Turned.refl _ w).setCell (.inl (by simp)) _).setCell (.inl (by simp)) _).setCell (.inl (by simp)) _).setCell (.inl (by simp)) _).setCell (.inl (by simp)) _).setCell (.inl (by simp)) _
end
/-! a value of three cells, in a cell of its own -/
abbrev wtC (x : Wt) : Obj := .cells #[.int .i64 x.1, .int .i64 x.2.1, .int .u64 x.2.2] tW
theorem wt_result {fn : Func} {p u : Tmp} (hf : fn.results = #[.cell p tW, .tmp u]) {tmps : Array Value} {w : World} {B : Nat} {x y z a : Value} (hp : tmps.getD p undef = .pointer (some ⟨B, 0, none⟩)) (hu : tmps.getD u undef = a)
    (h : w.heap[B]? = some (.cells #[x, y, z] tW (0, 0))) : (results fn tmps).run Try.prog w = .ok (.tuple #[.agg #[x, y, z], a]) w := by
  obtain ⟨h0, h1, h2, _⟩ := cells3a h
  rw [results_ct hf, hp, hu]
  simp [loadVar, go_sem, h0, h1, h2]
theorem wt_stored {w : World} {B : Nat} {x y z x' y' z' : Value} {t : TypeId} (h : w.heap[B]? = some (.cells #[x, y, z] t (0, 0))) :
    (((w.setCell ⟨B, 0, none⟩ x').setCell ⟨B, 1, none⟩ y').setCell ⟨B, 2, none⟩ z').heap[B]? = some (.cells #[x', y', z'] t (0, 0)) := by
  rw [heap_setCell_same _ _ _ _ _ _ (heap_setCell_same _ _ _ _ _ _ (heap_setCell_same _ _ _ _ _ _ h))]
  rfl
theorem Turned.set3w {w : World} {B : Nat} {X : List Nat} {a : World} (h : Turned X a w) (hB : B ∈ X ∨ a.heap.size ≤ B) (x y z : Value) :
    Turned X a (((w.setCell ⟨B, 0, none⟩ x).setCell ⟨B, 1, none⟩ y).setCell ⟨B, 2, none⟩ z) :=
  ((h.setCell hB _).setCell hB _).setCell hB _
/-- A cell of the call's own lies in none of the blocks, elder or newer. -/
theorem own_off {w W : World} {X X' : List Nat} (hX : ∀ k ∈ X, k < w.heap.size) (hn : Newer X W.heap.size X') (hW : w.heap.size < W.heap.size) : ∀ k ∈ X', k ∉ [w.heap.size] := by
  intro k hk hw
  simp at hw
  rcases hn k hk with h | h
  · have := hX k h; omega
  · omega

end Go.Proofs.Ytiffgkmmibhklaa
