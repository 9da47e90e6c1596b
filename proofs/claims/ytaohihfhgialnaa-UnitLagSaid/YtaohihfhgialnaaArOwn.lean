/-
  Memory of one's own, told by the numbers of its blocks: what a call may have turned, and what stays. No program.
-/
import Derived.WalkKit
import Derived.OneCell
import Derived.WalkSmall
namespace Go.Proofs.Ytaohihfhgialnaa
open Go.RowKit

/-- Of the blocks that lay in w none but those of X have turned in w'. -/
structure Turned (X : List Nat) (w w' : World) : Prop where
  os : w'.os = w.os
  tape : w'.tape = w.tape
  output : w'.output = w.output
  size : w.heap.size ≤ w'.heap.size
  block : ∀ k, k < w.heap.size → k ∉ X → w'.heap[k]? = w.heap[k]?

/-- Each of Y is one of X, or new from n on. -/
def Newer (X : List Nat) (n : Nat) (Y : List Nat) : Prop := ∀ k ∈ Y, k ∈ X ∨ n ≤ k

theorem Newer.refl (X : List Nat) (n : Nat) : Newer X n X := fun _ h => .inl h
theorem Newer.trans {X Y Z : List Nat} {n m : Nat} (h : Newer X n Y) (g : Newer Y m Z) (hn : n ≤ m) : Newer X n Z := fun k hk => by
  rcases g k hk with h1 | h1
  · exact h k h1
  · exact .inr (by omega)
theorem Newer.mono {X Y : List Nat} {n m : Nat} (h : Newer X n Y) (hn : m ≤ n) : Newer X m Y := fun k hk => by
  rcases h k hk with h1 | h1
  · exact .inl h1
  · exact .inr (by omega)

theorem Turned.refl (X : List Nat) (w : World) : Turned X w w := ⟨rfl, rfl, rfl, Nat.le_refl _, fun _ _ _ => rfl⟩
theorem Turned.trans {X Y : List Nat} {a b c : World} (h : Turned X a b) (g : Turned Y b c) (hs : Newer X a.heap.size Y) : Turned X a c :=
  ⟨g.os.trans h.os, g.tape.trans h.tape, g.output.trans h.output, Nat.le_trans h.size g.size, fun k hk hx =>
    (g.block k (Nat.lt_of_lt_of_le hk h.size) (fun hy => by rcases hs k hy with h1 | h1; exact hx h1; omega)).trans (h.block k hk hx)⟩
theorem Turned.mono {X Y : List Nat} {a b : World} (h : Turned Y a b) (hs : Newer X a.heap.size Y) : Turned X a b := (Turned.refl X a).trans h hs
theorem Turned.drewN {X : List Nat} {a b : World} (h : Turned X a b) (n : Nat) : Turned X a (b.drewN n) := ⟨h.os, h.tape, h.output, h.size, h.block⟩
theorem Turned.drew {X : List Nat} {a b : World} (h : Turned X a b) : Turned X a b.drew := ⟨h.os, h.tape, h.output, h.size, h.block⟩
theorem Turned.alloc {X : List Nat} {a b : World} (h : Turned X a b) (o : Obj) : Turned X a (b.alloc o) :=
  ⟨h.os, h.tape, h.output, Nat.le_trans h.size (by simp), fun k hk hx => (Below.heap_alloc b o k (Nat.lt_of_lt_of_le hk h.size)).trans (h.block k hk hx)⟩
theorem Turned.setCell {X : List Nat} {a b : World} (h : Turned X a b) {p : Addr} (hp : p.block ∈ X ∨ a.heap.size ≤ p.block) (u : Value) : Turned X a (b.setCell p u) :=
  ⟨h.os, h.tape, h.output, Nat.le_trans h.size (by simp [World.setCell]), fun k hk hx =>
    (Below.heap_setCell b p u k (fun e => by subst e; rcases hp with h1 | h1; exact hx h1; omega)).trans (h.block k hk hx)⟩
theorem Turned.grown {X : List Nat} {a b c : World} {row : Option Nat} (h : Turned X a b) (hg : b.grownBy c row) (hr : ∀ k, row = some k → k ∈ X ∨ a.heap.size ≤ k) : Turned X a c :=
  ⟨hg.os.trans h.os, hg.tape.trans h.tape, hg.output.trans h.output, Nat.le_trans h.size hg.size, fun k hk hx =>
    (hg.block k (Nat.lt_of_lt_of_le hk h.size) (fun e => by rcases hr k e.symm with h1 | h1; exact hx h1; omega)).trans (h.block k hk hx)⟩
theorem Turned.below {X : List Nat} {a b : World} {B : Nat} (h : Turned X a b) (hX : ∀ k ∈ X, B ≤ k) (hB : B ≤ a.heap.size) : Below B a b :=
  ⟨h.os, h.tape, h.output, h.size, fun k hk => h.block k (by omega) (fun hx => by have := hX k hx; omega)⟩
theorem Turned.same {X : List Nat} {a b : World} (h : Turned X a b) {k : Nat} {o : Obj} (ho : a.heap[k]? = some o) (hx : k ∉ X) : b.heap[k]? = some o :=
  (h.block k (lt_of_block ho) hx).trans ho

/-- A row stays owned where its block lies as it lay. -/
theorem ownsRow_same {w w' : World} {base : Nat} {e : TypeId} {size : Nat} {v : Value} {n : Nat} {xs : List Value} (h : w.ownsRow base e size v n xs)
    (hs : ∀ k ∈ v.ownBlock.toList, k < w.heap.size → w'.heap[k]? = w.heap[k]?) : w'.ownsRow base e size v n xs := by
  refine ⟨h.1, ?_⟩
  rcases h.2 with h2 | ⟨g, cap, cur, rfl, hb, hg, rest⟩
  · exact .inl h2
  · exact .inr ⟨g, cap, cur, rfl, hb, (hs g (by simp [Value.ownBlock]) (lt_of_block hg)).trans hg, rest⟩
theorem ownsRow_lt {w : World} {base : Nat} {e : TypeId} {size : Nat} {v : Value} {n : Nat} {xs : List Value} (h : w.ownsRow base e size v n xs) : ∀ k ∈ v.ownBlock.toList, k < w.heap.size := by
  intro k hk
  exact (h.lt k (by simpa using hk)).2
/-- The block of a row holds elements of its own type. -/
theorem ownsRow_type {w : World} {base : Nat} {e : TypeId} {size : Nat} {v : Value} {n : Nat} {xs : List Value} (h : w.ownsRow base e size v n xs) : ∀ k ∈ v.ownBlock.toList, ∃ cur, w.heap[k]? = some (.cells cur e (0, 0)) := by
  intro k hk
  rcases h.2 with ⟨rfl, _⟩ | ⟨g, cap, cur, rfl, hb, hg, _⟩
  · simp [Value.ownBlock] at hk
  · simp [Value.ownBlock] at hk
    subst hk
    exact ⟨cur, hg⟩
/-- What a row's value looks like. -/
theorem ownsRow_shape {w : World} {base : Nat} {e : TypeId} {size : Nat} {v : Value} {n : Nat} {xs : List Value} (h : w.ownsRow base e size v n xs) : ∃ a cap, v = .slice a n cap ∧ n ≤ cap ∧ cap ≤ maxLen := by
  rcases h.2 with ⟨rfl, rfl⟩ | ⟨g, cap, cur, rfl, _, _, h1, h2, _⟩
  · exact ⟨none, 0, rfl, Nat.le_refl _, by simp [maxLen]⟩
  · exact ⟨_, cap, rfl, h1, h2⟩
theorem ownsRow_pos {w : World} {base : Nat} {e : TypeId} {size : Nat} {v : Value} {n : Nat} {xs : List Value} (h : w.ownsRow base e size v n xs) (hn : 0 < n) : ∃ g cap, v = .slice (some ⟨g, 0, none⟩) n cap ∧ n ≤ cap ∧ cap ≤ maxLen := by
  rcases h.2 with ⟨rfl, rfl⟩ | ⟨g, cap, cur, rfl, _, _, h1, h2, _⟩
  · omega
  · exact ⟨g, cap, rfl, h1, h2⟩
/-- A row cut at its end is owned still. -/
theorem ownsRow_cut {w : World} {base : Nat} {e : TypeId} {size : Nat} {g n cap : Nat} {xs : List Value} (h : w.ownsRow base e size (.slice (some ⟨g, 0, none⟩) n cap) n xs) {k : Nat} (hk : k ≤ n) :
    w.ownsRow base e size (.slice (some ⟨g, 0, none⟩) k cap) k (xs.take (k * size)) := by
  have hm : k * size ≤ n * size := Nat.mul_le_mul_right _ hk
  refine ⟨by rw [List.length_take, h.1]; omega, ?_⟩
  rcases h.2 with ⟨h', _⟩ | ⟨g', cap', cur, h', hb, hg, h1, h2, h3, h4⟩
  · simp at h'
  · simp only [Value.slice.injEq, Option.some.injEq, Addr.mk.injEq, and_true, true_and] at h'
    obtain ⟨rfl, rfl⟩ := h'
    exact .inr ⟨g, cap, cur, rfl, hb, hg, by omega, h2, h3, by rw [← h4, List.take_take, Nat.min_eq_left hm]⟩
end Go.Proofs.Ytaohihfhgialnaa
