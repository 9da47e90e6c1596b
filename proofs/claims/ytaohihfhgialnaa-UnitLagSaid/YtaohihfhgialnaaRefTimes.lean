/-
  The reference's Times.
-/
import Derived.Test.YtaohihfhgialnaaRefSum
import Derived.Deep.LoopGhost
namespace Go.Proofs.Ytaohihfhgialnaa
open Go.RowKit Go.Shelf

theorem Digs.cellAt {w : World} {A : Option Addr} {c : Nat} {L : List Int} (h : Digs w (.slice A L.length c) L) : ∀ wr : World, Below w.heap.size w wr → ∀ k, k < L.length → ∃ g o, A = some ⟨g, o, none⟩ ∧ wr.cell? ⟨g, o + k, none⟩ = some (.int .u64 (dg L k)) := by
  intro wr hb k hk
  rcases h.below hb with ⟨_, h2⟩ | ⟨g, o, c', h1, _, _, _, h5⟩
  · subst h2; simp at hk
  · simp only [Value.slice.injEq] at h1
    exact ⟨g, o, h1.1, h5 k hk⟩

theorem cell_new_drewN (w : World) (n : Nat) (x : Value) (t : TypeId) : ((w.drewN n).alloc (.cells #[x] t)).cell? ⟨w.heap.size, 0, none⟩ = some x :=
  World.cell?_alloc_at (w := w.drewN n) #[x] t w.heap.size 0 rfl

theorem num_zero (w : World) : Num (w.alloc (.cells #[.int .u64 0] 23)) (.slice (some ⟨w.heap.size, 0, none⟩) 1 1) 0 1 := by
  refine ⟨[0], .inr ⟨w.heap.size, 0, 1, rfl, Nat.le_refl _, by unfold maxLen; omega, by simp, ?_⟩, ?_, ?_, Nat.le_refl _⟩
  · intro i hi
    match i, hi with
    | 0, _ => simp [go_sem, dg]
  · intro k
    match k with
    | 0 => unfold Digit dg; simp
    | k + 1 => rw [dg_out (by simp)]; unfold Digit; omega
  · simp [val, pv, dg]

end Go.Proofs.Ytaohihfhgialnaa
