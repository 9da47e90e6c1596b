/-
  append onto a row of one's own: where the longer row lies. No program.
-/
import Derived.Test.YtnoiifnknkakoaaArSlot
import Derived.Test.YtnoiifnknkakoaaArAppAt
namespace Go.Proofs.Ytnoiifnknkakoaa
open Go.RowKit

section
variable {α : Type} {tA tS : TypeId} {enc : α → List Value} {k : Nat} {w w1 : World} {b : Nat} {m : Int} {S : List (α × Bool)} {F : List Nat} {sv fv : Value}

/-- Behind 'a.slots = append(a.slots, ..)': the append. -/
theorem ArAt.appended1 (h1 : w.heap[b]? = some (.cells #[.int .i64 m, sv, fv] tA (0, 0))) (h2 : w.ownsRow 0 tS (k + 1) sv S.length (slots enc S)) (h3 : w.ownsRow 0 3 1 fv F.length (places F))
    (n1 : tA ≠ tS) (n3 : tS ≠ 3) (tmp : Obj) (hg : (w.alloc tmp).grownBy w1 sv.ownBlock) :
    w1.heap[b]? = some (.cells #[.int .i64 m, sv, fv] tA (0, 0)) ∧ w1.ownsRow 0 3 1 fv F.length (places F) := by
  have hb := lt_of_block h1
  refine ⟨(hg.block b (by simp; omega) (block_off h1 h2 n1)).trans ((Below.heap_alloc w tmp b hb).trans h1), (h3.alloc tmp).kept hg (rows_off h3 h2 n3.symm)⟩
/-- .. and the store. -/
theorem ArAt.appended2 (h1 : w.heap[b]? = some (.cells #[.int .i64 m, sv, fv] tA (0, 0))) (h2 : w.ownsRow 0 tS (k + 1) sv S.length (slots enc S)) (h3 : w.ownsRow 0 3 1 fv F.length (places F))
    (n1 : tA ≠ tS) (n2 : tA ≠ 3) (n3 : tS ≠ 3) (tmp : Obj) (hg : (w.alloc tmp).grownBy w1 sv.ownBlock) {g n cap' : Nat} {T : List (α × Bool)} (hn : n = T.length) (ho : w1.ownsRow 0 tS (k + 1) (.slice (some ⟨g, 0, none⟩) n cap') n (slots enc T))
    (hw : sv.ownBlock = some g ∨ (w.alloc tmp).heap.size ≤ g) :
    ∃ X', ArAt tA tS enc k (w1.setCell ⟨b, 1, none⟩ (.slice (some ⟨g, 0, none⟩) n cap')) b X' m T F ∧ Turned (b :: (sv.ownBlock.toList ++ fv.ownBlock.toList)) w (w1.setCell ⟨b, 1, none⟩ (.slice (some ⟨g, 0, none⟩) n cap')) ∧
      Newer (b :: (sv.ownBlock.toList ++ fv.ownBlock.toList)) w.heap.size X' := by
  obtain ⟨hb1, hf1⟩ := ArAt.appended1 (k := k) h1 h2 h3 n1 n3 tmp hg
  subst hn
  refine ⟨_, ⟨_, fv, ?_, ownsRow_setCell_other ho (a := ⟨b, 1, none⟩) (fun e => block_off hb1 ho n1 e.symm) _, ownsRow_setCell_other hf1 (a := ⟨b, 1, none⟩) (fun e => block_off hb1 hf1 n2 e.symm) _, rfl⟩, ?_, ?_⟩
  · rw [heap_setCell_same w1 b 1 _ _ _ hb1]
    rfl
  · refine Turned.setCell (((Turned.refl _ w).alloc tmp).grown hg (fun j hj => ?_)) (.inl (by simp)) _
    exact .inl (List.mem_cons_of_mem _ (List.mem_append_left _ (by simp [hj])))
  · intro j hj
    rcases List.mem_cons.1 hj with rfl | hj
    · exact .inl (by simp)
    · rcases List.mem_append.1 hj with hj | hj
      · simp [Value.ownBlock] at hj
        subst hj
        rcases hw with hw | hw
        · exact .inl (List.mem_cons_of_mem _ (List.mem_append_left _ (by simp [hw])))
        · exact .inr (by simp at hw; omega)
      · exact .inl (List.mem_cons_of_mem _ (List.mem_append_right _ hj))

/-- Behind 'a.free = append(a.free, j)': the append. -/
theorem ArAt.freed1 (h1 : w.heap[b]? = some (.cells #[.int .i64 m, sv, fv] tA (0, 0))) (h2 : w.ownsRow 0 tS (k + 1) sv S.length (slots enc S)) (h3 : w.ownsRow 0 3 1 fv F.length (places F))
    (n2 : tA ≠ 3) (n3 : tS ≠ 3) (tmp : Obj) (hg : (w.alloc tmp).grownBy w1 fv.ownBlock) :
    w1.heap[b]? = some (.cells #[.int .i64 m, sv, fv] tA (0, 0)) ∧ w1.ownsRow 0 tS (k + 1) sv S.length (slots enc S) := by
  have hb := lt_of_block h1
  refine ⟨(hg.block b (by simp; omega) (block_off h1 h3 n2)).trans ((Below.heap_alloc w tmp b hb).trans h1), (h2.alloc tmp).kept hg (rows_off h2 h3 n3)⟩
/-- .. and the store. -/
theorem ArAt.freed2 (h1 : w.heap[b]? = some (.cells #[.int .i64 m, sv, fv] tA (0, 0))) (h2 : w.ownsRow 0 tS (k + 1) sv S.length (slots enc S)) (h3 : w.ownsRow 0 3 1 fv F.length (places F))
    (n1 : tA ≠ tS) (n2 : tA ≠ 3) (n3 : tS ≠ 3) (tmp : Obj) (hg : (w.alloc tmp).grownBy w1 fv.ownBlock) {g n cap' : Nat} {G : List Nat} (hn : n = G.length) (ho : w1.ownsRow 0 3 1 (.slice (some ⟨g, 0, none⟩) n cap') n (places G))
    (hw : fv.ownBlock = some g ∨ (w.alloc tmp).heap.size ≤ g) :
    ∃ X', ArAt tA tS enc k (w1.setCell ⟨b, 2, none⟩ (.slice (some ⟨g, 0, none⟩) n cap')) b X' m S G ∧ Turned (b :: (sv.ownBlock.toList ++ fv.ownBlock.toList)) w (w1.setCell ⟨b, 2, none⟩ (.slice (some ⟨g, 0, none⟩) n cap')) ∧
      Newer (b :: (sv.ownBlock.toList ++ fv.ownBlock.toList)) w.heap.size X' := by
  obtain ⟨hb1, hs1⟩ := ArAt.freed1 (k := k) h1 h2 h3 n2 n3 tmp hg
  subst hn
  refine ⟨_, ⟨sv, _, ?_, ownsRow_setCell_other hs1 (a := ⟨b, 2, none⟩) (fun e => block_off hb1 hs1 n1 e.symm) _, ownsRow_setCell_other ho (a := ⟨b, 2, none⟩) (fun e => block_off hb1 ho n2 e.symm) _, rfl⟩, ?_, ?_⟩
  · rw [heap_setCell_same w1 b 2 _ _ _ hb1]
    rfl
  · refine Turned.setCell (((Turned.refl _ w).alloc tmp).grown hg (fun j hj => ?_)) (.inl (by simp)) _
    exact .inl (List.mem_cons_of_mem _ (List.mem_append_right _ (by simp [hj])))
  · intro j hj
    rcases List.mem_cons.1 hj with rfl | hj
    · exact .inl (by simp)
    · rcases List.mem_append.1 hj with hj | hj
      · exact .inl (List.mem_cons_of_mem _ (List.mem_append_left _ hj))
      · simp [Value.ownBlock] at hj
        subst hj
        rcases hw with hw | hw
        · exact .inl (List.mem_cons_of_mem _ (List.mem_append_right _ (by simp [hw])))
        · exact .inr (by simp at hw; omega)
end
section
variable {α : Type} {tA tS : TypeId} {enc : α → List Value} {k : Nat} {w : World} {b : Nat} {m : Int} {S : List (α × Bool)} {F : List Nat} {sv : Value}
/-- Behind 'a.free = a.free[:last]'. -/
theorem ArAt.popped {f g cap : Nat} (h1 : w.heap[b]? = some (.cells #[.int .i64 m, sv, .slice (some ⟨g, 0, none⟩) (F.length + 1) cap] tA (0, 0))) (h2 : w.ownsRow 0 tS (k + 1) sv S.length (slots enc S))
    (h3 : w.ownsRow 0 3 1 (.slice (some ⟨g, 0, none⟩) (F.length + 1) cap) (F.length + 1) (places (F ++ [f]))) (n1 : tA ≠ tS) (n2 : tA ≠ 3) :
    ArAt tA tS enc k (w.setCell ⟨b, 2, none⟩ (.slice (some ⟨g, 0, none⟩) F.length cap)) b (b :: (sv.ownBlock.toList ++ [g])) m S F ∧ Turned (b :: (sv.ownBlock.toList ++ [g])) w (w.setCell ⟨b, 2, none⟩ (.slice (some ⟨g, 0, none⟩) F.length cap)) := by
  have h4 := ownsRow_cut h3 (k := F.length) (by omega)
  rw [places_snoc, Nat.mul_one, List.take_left' (by rw [places_len])] at h4
  refine ⟨⟨sv, .slice (some ⟨g, 0, none⟩) F.length cap, ?_, ownsRow_setCell_other h2 (a := ⟨b, 2, none⟩) (fun e => block_off h1 h2 n1 e.symm) _, ownsRow_setCell_other h4 (a := ⟨b, 2, none⟩) (fun e => block_off h1 h4 n2 e.symm) _, rfl⟩, ?_⟩
  · rw [heap_setCell_same w b 2 _ _ _ h1]
    rfl
  · exact (Turned.refl _ w).setCell (.inl (by simp)) _
end
end Go.Proofs.Ytnoiifnknkakoaa
