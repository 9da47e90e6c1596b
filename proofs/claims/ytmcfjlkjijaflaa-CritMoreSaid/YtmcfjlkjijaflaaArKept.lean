/-
  What a round of a loop over a function may turn. No program.
-/
import Derived.Test.YtmcfjlkjijaflaaArAppAt
import Derived.RangeFuncNested
import Derived.RangeFuncBound
import Derived.RangeFuncCalls
import Derived.RangeFuncLeaves
import Derived.RangeFuncBox
namespace Go.Proofs.Ytmcfjlkjijaflaa
open Go.RowKit

/-- Below n₀ the world is as it was, but for the blocks of X. -/
structure Kept (X : List Nat) (n₀ : Nat) (w w' : World) : Prop where
  os : w'.os = w.os
  tape : w'.tape = w.tape
  output : w'.output = w.output
  size : w.heap.size ≤ w'.heap.size
  block : ∀ k, k < n₀ → k ∉ X → w'.heap[k]? = w.heap[k]?
theorem Kept.refl (X : List Nat) (n₀ : Nat) (w : World) : Kept X n₀ w w := ⟨rfl, rfl, rfl, Nat.le_refl _, fun _ _ _ => rfl⟩
theorem Kept.trans {X : List Nat} {n₀ : Nat} {a b c : World} (h : Kept X n₀ a b) (g : Kept X n₀ b c) : Kept X n₀ a c :=
  ⟨g.os.trans h.os, g.tape.trans h.tape, g.output.trans h.output, Nat.le_trans h.size g.size, fun k hk hx => (g.block k hk hx).trans (h.block k hk hx)⟩
theorem Kept.drewN {X : List Nat} {n₀ : Nat} {a b : World} (h : Kept X n₀ a b) (n : Nat) : Kept X n₀ a (b.drewN n) := ⟨h.os, h.tape, h.output, h.size, h.block⟩
theorem Kept.alloc {X : List Nat} {n₀ : Nat} {a b : World} (h : Kept X n₀ a b) (hn : n₀ ≤ b.heap.size) (o : Obj) : Kept X n₀ a (b.alloc o) :=
  ⟨h.os, h.tape, h.output, Nat.le_trans h.size (by simp), fun k hk hx => (Below.heap_alloc b o k (by omega)).trans (h.block k hk hx)⟩
theorem Kept.setCell {X : List Nat} {n₀ : Nat} {a b : World} (h : Kept X n₀ a b) {p : Addr} (hp : p.block ∈ X ∨ n₀ ≤ p.block) (u : Value) : Kept X n₀ a (b.setCell p u) :=
  ⟨h.os, h.tape, h.output, Nat.le_trans h.size (by simp [World.setCell]), fun k hk hx =>
    (Below.heap_setCell b p u k (fun e => by subst e; rcases hp with h1 | h1; exact hx h1; omega)).trans (h.block k hk hx)⟩
theorem Kept.of_below {X : List Nat} {n₀ : Nat} {a b : World} (h : Below n₀ a b) : Kept X n₀ a b := ⟨h.os, h.tape, h.output, h.size, fun k hk _ => h.block k hk⟩
theorem Kept.of_turned {X : List Nat} {n₀ : Nat} {a b : World} (h : Turned X a b) (hn : n₀ ≤ a.heap.size) : Kept X n₀ a b := ⟨h.os, h.tape, h.output, h.size, fun k hk hx => h.block k (by omega) hx⟩
theorem Kept.turned {X : List Nat} {n₀ : Nat} {a b : World} (h : Kept X n₀ a b) (hn : a.heap.size ≤ n₀) : Turned X a b := ⟨h.os, h.tape, h.output, h.size, fun k hk hx => h.block k (by omega) hx⟩
theorem keptK_t {X : List Nat} {n₀ : Nat} {A B C : World} (h : Kept X n₀ A B) (k : Kept X n₀ B C) : Kept X n₀ A C := h.trans k
theorem keptK_b {X : List Nat} {n₀ : Nat} {w : World} (hn : n₀ ≤ w.heap.size) (W : World) (l : Nat) (o o' : Obj) (hl : w.heap.size ≤ l) (h : W.heap[l]? = some o) (h1 : o.isCells = false) (h2 : o.isWalk = false) : Kept X n₀ W (W.putObj l o') :=
  Kept.of_below (belowK_b hn W l o o' hl h h1 h2)
theorem Kept.row {X : List Nat} {n₀ : Nat} {a b : World} (h : Kept X n₀ a b) {base : Nat} {e : TypeId} {size : Nat} {v : Value} {n : Nat} {xs : List Value} (hr : a.ownsRow base e size v n xs) (hk : ∀ k ∈ v.ownBlock.toList, k < n₀ ∧ k ∉ X) : b.ownsRow base e size v n xs :=
  ownsRow_same hr fun k hv _ => h.block k (hk k hv).1 (hk k hv).2
theorem Kept.at {X : List Nat} {n₀ : Nat} {a b : World} (h : Kept X n₀ a b) {k : Nat} {o : Obj} (ho : a.heap[k]? = some o) (hk : k < n₀) (hx : k ∉ X) : b.heap[k]? = some o := (h.block k hk hx).trans ho

/-- What speaks of cells' blocks alone abides the turn of a block that is no cells. -/
theorem block_abides {W W' : World} {row : Option Nat} {k : Nat} {cs : Array Value} {t : TypeId} {f : Nat × Nat} (h : W.heap[k]? = some (.cells cs t f)) (hg : W.grownBy W' row) (hr : ∀ r, row = some r → ∃ o : Obj, W.heap[r]? = some o ∧ o.isCells = false) : W'.heap[k]? = some (.cells cs t f) := by
  refine (hg.block k (lt_of_block h) (fun e => ?_)).trans h
  obtain ⟨o, ho, hc⟩ := hr k e.symm
  rw [h] at ho
  cases ho
  cases hc
theorem row_abides {W W' : World} {row : Option Nat} {base : Nat} {e : TypeId} {size : Nat} {v : Value} {n : Nat} {xs : List Value} (h : W.ownsRow base e size v n xs) (hg : W.grownBy W' row) (hr : ∀ r, row = some r → ∃ o : Obj, W.heap[r]? = some o ∧ o.isCells = false) : W'.ownsRow base e size v n xs := by
  refine ownsRow_same h fun k hk _ => ?_
  obtain ⟨cur, hc⟩ := ownsRow_type h k hk
  rw [hc]
  exact block_abides hc hg hr
end Go.Proofs.Ytmcfjlkjijaflaa
