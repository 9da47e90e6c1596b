/-
  The document's arena in memory, part by part: what appends, cuts and stores make of it. No program.
-/
import Derived.Test.YtiicbmgompnehaaArApp
namespace Go.Proofs.Ytiicbmgompnehaa
open Go.RowKit

abbrev tRf : TypeId := 42
/-- The blocks of the document's arena. -/
def rb (b : Nat) (lv ov fv : Value) : List Nat := b :: (lv.ownBlock.toList ++ (ov.ownBlock.toList ++ fv.ownBlock.toList))
/-- The document's arena, its parts apart. -/
structure RfP (w : World) (b : Nat) (m : Int) (lv : Value) (nl : Nat) (Ls : List Value) (ov : Value) (no : Nat) (Os : List Value) (fv : Value) (nf : Nat) (Fs : List Value) : Prop where
  blk : w.heap[b]? = some (.cells #[.int .i64 m, lv, ov, fv] tRf (0, 0))
  rl : w.ownsRow 0 3 1 lv nl Ls
  ro : w.ownsRow 0 4 1 ov no Os
  rf : w.ownsRow 0 3 1 fv nf Fs
  off : ∀ k ∈ lv.ownBlock.toList, k ∉ fv.ownBlock.toList

section
variable {w w1 : World} {b : Nat} {m : Int} {lv ov fv : Value} {nl no nf : Nat} {Ls Os Fs : List Value}

theorem RfP.lt (h : RfP w b m lv nl Ls ov no Os fv nf Fs) : ∀ k ∈ rb b lv ov fv, k < w.heap.size := by
  intro k hk
  rcases List.mem_cons.1 hk with rfl | hk
  · exact lt_of_block h.blk
  · rcases List.mem_append.1 hk with hk | hk
    · exact ownsRow_lt h.rl k hk
    · rcases List.mem_append.1 hk with hk | hk
      · exact ownsRow_lt h.ro k hk
      · exact ownsRow_lt h.rf k hk
theorem RfP.cells (h : RfP w b m lv nl Ls ov no Os fv nf Fs) : w.cell? ⟨b, 0, none⟩ = some (.int .i64 m) ∧ w.cell? ⟨b, 1, none⟩ = some lv ∧ w.cell? ⟨b, 2, none⟩ = some ov ∧ w.cell? ⟨b, 3, none⟩ = some fv ∧ ∀ i, w.frozen? ⟨b, i, none⟩ = false := by
  have h1 := h.blk
  refine ⟨by simp [World.cell?, h1], by simp [World.cell?, h1], by simp [World.cell?, h1], by simp [World.cell?, h1], fun i => frozen_of_row w b i _ tRf h1⟩
theorem off_none (h : RfP w b m lv nl Ls ov no Os fv nf Fs) : lv.ownBlock = none ∨ lv.ownBlock ≠ fv.ownBlock := by
  cases hv : lv.ownBlock with
  | none => exact .inl rfl
  | some g => exact .inr fun e => h.off g (by simp [hv]) (by simp [← e])
theorem off_none' (h : RfP w b m lv nl Ls ov no Os fv nf Fs) : fv.ownBlock = none ∨ fv.ownBlock ≠ lv.ownBlock := by
  cases hv : fv.ownBlock with
  | none => exact .inl rfl
  | some g => exact .inr fun e => h.off g (by simp [← e]) (by simp [hv])

/-- Behind the append onto L. -/
theorem RfP.appL1 (h : RfP w b m lv nl Ls ov no Os fv nf Fs) (tmp : Obj) (hg : (w.alloc tmp).grownBy w1 lv.ownBlock) :
    w1.heap[b]? = some (.cells #[.int .i64 m, lv, ov, fv] tRf (0, 0)) ∧ w1.ownsRow 0 4 1 ov no Os ∧ w1.ownsRow 0 3 1 fv nf Fs := by
  have hb := lt_of_block h.blk
  refine ⟨(hg.block b (by simp; omega) (block_off h.blk h.rl (by decide))).trans ((Below.heap_alloc w tmp b hb).trans h.blk), (h.ro.alloc tmp).kept hg (rows_off h.ro h.rl (by decide)), (h.rf.alloc tmp).kept hg (off_none' h)⟩
theorem RfP.appL2 (h : RfP w b m lv nl Ls ov no Os fv nf Fs) (tmp : Obj) (hg : (w.alloc tmp).grownBy w1 lv.ownBlock) {g n cap : Nat} {Ls' : List Value} (ho : w1.ownsRow 0 3 1 (.slice (some ⟨g, 0, none⟩) n cap) n Ls')
    (hw : lv.ownBlock = some g ∨ (w.alloc tmp).heap.size ≤ g) :
    RfP (w1.setCell ⟨b, 1, none⟩ (.slice (some ⟨g, 0, none⟩) n cap)) b m (.slice (some ⟨g, 0, none⟩) n cap) n Ls' ov no Os fv nf Fs ∧ Turned (rb b lv ov fv) w (w1.setCell ⟨b, 1, none⟩ (.slice (some ⟨g, 0, none⟩) n cap)) ∧
      Newer (rb b lv ov fv) w.heap.size (rb b (.slice (some ⟨g, 0, none⟩) n cap) ov fv) := by
  obtain ⟨hb1, h2, h3⟩ := h.appL1 tmp hg
  refine ⟨⟨?_, ownsRow_setCell_other ho (a := ⟨b, 1, none⟩) (fun e => block_off hb1 ho (by decide) e.symm) _, ownsRow_setCell_other h2 (a := ⟨b, 1, none⟩) (fun e => block_off hb1 h2 (by decide) e.symm) _,
    ownsRow_setCell_other h3 (a := ⟨b, 1, none⟩) (fun e => block_off hb1 h3 (by decide) e.symm) _, ?_⟩, ?_, ?_⟩
  · rw [heap_setCell_same w1 b 1 _ _ _ hb1]
    rfl
  · intro k hk hf
    simp [Value.ownBlock] at hk
    subst hk
    rcases hw with hw | hw
    · exact h.off _ (by simp [hw]) hf
    · have := ownsRow_lt h.rf _ hf
      simp at hw
      omega
  · refine Turned.setCell (((Turned.refl _ w).alloc tmp).grown hg (fun j hj => ?_)) (.inl (by simp [rb])) _
    exact .inl (List.mem_cons_of_mem _ (List.mem_append_left _ (by simp [hj])))
  · intro j hj
    rcases List.mem_cons.1 hj with rfl | hj
    · exact .inl (by simp [rb])
    · rcases List.mem_append.1 hj with hj | hj
      · simp [Value.ownBlock] at hj
        subst hj
        rcases hw with hw | hw
        · exact .inl (List.mem_cons_of_mem _ (List.mem_append_left _ (by simp [hw])))
        · exact .inr (by simp at hw; omega)
      · exact .inl (List.mem_cons_of_mem _ (List.mem_append_right _ hj))

/-- Behind the append onto On. -/
theorem RfP.appO1 (h : RfP w b m lv nl Ls ov no Os fv nf Fs) (tmp : Obj) (hg : (w.alloc tmp).grownBy w1 ov.ownBlock) :
    w1.heap[b]? = some (.cells #[.int .i64 m, lv, ov, fv] tRf (0, 0)) ∧ w1.ownsRow 0 3 1 lv nl Ls ∧ w1.ownsRow 0 3 1 fv nf Fs := by
  have hb := lt_of_block h.blk
  refine ⟨(hg.block b (by simp; omega) (block_off h.blk h.ro (by decide))).trans ((Below.heap_alloc w tmp b hb).trans h.blk), (h.rl.alloc tmp).kept hg (rows_off h.rl h.ro (by decide)), (h.rf.alloc tmp).kept hg (rows_off h.rf h.ro (by decide))⟩
theorem RfP.appO2 (h : RfP w b m lv nl Ls ov no Os fv nf Fs) (tmp : Obj) (hg : (w.alloc tmp).grownBy w1 ov.ownBlock) {g n cap : Nat} {Os' : List Value} (ho : w1.ownsRow 0 4 1 (.slice (some ⟨g, 0, none⟩) n cap) n Os')
    (hw : ov.ownBlock = some g ∨ (w.alloc tmp).heap.size ≤ g) :
    RfP (w1.setCell ⟨b, 2, none⟩ (.slice (some ⟨g, 0, none⟩) n cap)) b m lv nl Ls (.slice (some ⟨g, 0, none⟩) n cap) n Os' fv nf Fs ∧ Turned (rb b lv ov fv) w (w1.setCell ⟨b, 2, none⟩ (.slice (some ⟨g, 0, none⟩) n cap)) ∧
      Newer (rb b lv ov fv) w.heap.size (rb b lv (.slice (some ⟨g, 0, none⟩) n cap) fv) := by
  obtain ⟨hb1, h2, h3⟩ := h.appO1 tmp hg
  refine ⟨⟨?_, ownsRow_setCell_other h2 (a := ⟨b, 2, none⟩) (fun e => block_off hb1 h2 (by decide) e.symm) _, ownsRow_setCell_other ho (a := ⟨b, 2, none⟩) (fun e => block_off hb1 ho (by decide) e.symm) _,
    ownsRow_setCell_other h3 (a := ⟨b, 2, none⟩) (fun e => block_off hb1 h3 (by decide) e.symm) _, h.off⟩, ?_, ?_⟩
  · rw [heap_setCell_same w1 b 2 _ _ _ hb1]
    rfl
  · refine Turned.setCell (((Turned.refl _ w).alloc tmp).grown hg (fun j hj => ?_)) (.inl (by simp [rb])) _
    exact .inl (List.mem_cons_of_mem _ (List.mem_append_right _ (List.mem_append_left _ (by simp [hj]))))
  · intro j hj
    rcases List.mem_cons.1 hj with rfl | hj
    · exact .inl (by simp [rb])
    · rcases List.mem_append.1 hj with hj | hj
      · exact .inl (List.mem_cons_of_mem _ (List.mem_append_left _ hj))
      · rcases List.mem_append.1 hj with hj | hj
        · simp [Value.ownBlock] at hj
          subst hj
          rcases hw with hw | hw
          · exact .inl (List.mem_cons_of_mem _ (List.mem_append_right _ (List.mem_append_left _ (by simp [hw]))))
          · exact .inr (by simp at hw; omega)
        · exact .inl (List.mem_cons_of_mem _ (List.mem_append_right _ (List.mem_append_right _ hj)))

/-- Behind the append onto Free. -/
theorem RfP.appF1 (h : RfP w b m lv nl Ls ov no Os fv nf Fs) (tmp : Obj) (hg : (w.alloc tmp).grownBy w1 fv.ownBlock) :
    w1.heap[b]? = some (.cells #[.int .i64 m, lv, ov, fv] tRf (0, 0)) ∧ w1.ownsRow 0 3 1 lv nl Ls ∧ w1.ownsRow 0 4 1 ov no Os := by
  have hb := lt_of_block h.blk
  refine ⟨(hg.block b (by simp; omega) (block_off h.blk h.rf (by decide))).trans ((Below.heap_alloc w tmp b hb).trans h.blk), (h.rl.alloc tmp).kept hg (off_none h), (h.ro.alloc tmp).kept hg (rows_off h.ro h.rf (by decide))⟩
theorem RfP.appF2 (h : RfP w b m lv nl Ls ov no Os fv nf Fs) (tmp : Obj) (hg : (w.alloc tmp).grownBy w1 fv.ownBlock) {g n cap : Nat} {Fs' : List Value} (ho : w1.ownsRow 0 3 1 (.slice (some ⟨g, 0, none⟩) n cap) n Fs')
    (hw : fv.ownBlock = some g ∨ (w.alloc tmp).heap.size ≤ g) :
    RfP (w1.setCell ⟨b, 3, none⟩ (.slice (some ⟨g, 0, none⟩) n cap)) b m lv nl Ls ov no Os (.slice (some ⟨g, 0, none⟩) n cap) n Fs' ∧ Turned (rb b lv ov fv) w (w1.setCell ⟨b, 3, none⟩ (.slice (some ⟨g, 0, none⟩) n cap)) ∧
      Newer (rb b lv ov fv) w.heap.size (rb b lv ov (.slice (some ⟨g, 0, none⟩) n cap)) := by
  obtain ⟨hb1, h2, h3⟩ := h.appF1 tmp hg
  refine ⟨⟨?_, ownsRow_setCell_other h2 (a := ⟨b, 3, none⟩) (fun e => block_off hb1 h2 (by decide) e.symm) _, ownsRow_setCell_other h3 (a := ⟨b, 3, none⟩) (fun e => block_off hb1 h3 (by decide) e.symm) _,
    ownsRow_setCell_other ho (a := ⟨b, 3, none⟩) (fun e => block_off hb1 ho (by decide) e.symm) _, ?_⟩, ?_, ?_⟩
  · rw [heap_setCell_same w1 b 3 _ _ _ hb1]
    rfl
  · intro k hk hf
    simp [Value.ownBlock] at hf
    subst hf
    rcases hw with hw | hw
    · exact h.off _ hk (by simp [hw])
    · have := ownsRow_lt h.rl _ hk
      simp at hw
      omega
  · refine Turned.setCell (((Turned.refl _ w).alloc tmp).grown hg (fun j hj => ?_)) (.inl (by simp [rb])) _
    exact .inl (List.mem_cons_of_mem _ (List.mem_append_right _ (List.mem_append_right _ (by simp [hj]))))
  · intro j hj
    rcases List.mem_cons.1 hj with rfl | hj
    · exact .inl (by simp [rb])
    · rcases List.mem_append.1 hj with hj | hj
      · exact .inl (List.mem_cons_of_mem _ (List.mem_append_left _ hj))
      · rcases List.mem_append.1 hj with hj | hj
        · exact .inl (List.mem_cons_of_mem _ (List.mem_append_right _ (List.mem_append_left _ hj)))
        · simp [Value.ownBlock] at hj
          subst hj
          rcases hw with hw | hw
          · exact .inl (List.mem_cons_of_mem _ (List.mem_append_right _ (List.mem_append_right _ (by simp [hw]))))
          · exact .inr (by simp at hw; omega)

/-- Free cut at its end. -/
theorem RfP.cutF {g n cap k : Nat} (h : RfP w b m lv nl Ls ov no Os (.slice (some ⟨g, 0, none⟩) n cap) n Fs) (hk : k ≤ n) :
    RfP (w.setCell ⟨b, 3, none⟩ (.slice (some ⟨g, 0, none⟩) k cap)) b m lv nl Ls ov no Os (.slice (some ⟨g, 0, none⟩) k cap) k (Fs.take k) ∧ Turned (rb b lv ov (.slice (some ⟨g, 0, none⟩) n cap)) w (w.setCell ⟨b, 3, none⟩ (.slice (some ⟨g, 0, none⟩) k cap)) := by
  have h4 := ownsRow_cut h.rf hk
  rw [Nat.mul_one] at h4
  refine ⟨⟨?_, ownsRow_setCell_other h.rl (a := ⟨b, 3, none⟩) (fun e => block_off h.blk h.rl (by decide) e.symm) _, ownsRow_setCell_other h.ro (a := ⟨b, 3, none⟩) (fun e => block_off h.blk h.ro (by decide) e.symm) _,
    ownsRow_setCell_other h4 (a := ⟨b, 3, none⟩) (fun e => block_off h.blk h4 (by decide) e.symm) _, h.off⟩, (Turned.refl _ w).setCell (.inl (by simp [rb])) _⟩
  rw [heap_setCell_same w b 3 _ _ _ h.blk]
  rfl
/-- 'L[j] = v'. -/
theorem RfP.setL {g n cap : Nat} (h : RfP w b m (.slice (some ⟨g, 0, none⟩) n cap) n Ls ov no Os fv nf Fs) (j : Nat) (u : Value) :
    RfP (w.setCell ⟨g, j, none⟩ u) b m (.slice (some ⟨g, 0, none⟩) n cap) n (Ls.set j u) ov no Os fv nf Fs ∧ Turned (rb b (.slice (some ⟨g, 0, none⟩) n cap) ov fv) w (w.setCell ⟨g, j, none⟩ u) := by
  have hbg : b ≠ g := fun e => block_off h.blk h.rl (by decide) (by simp [Value.ownBlock, e])
  have ho : ov.ownBlock ≠ some g := by
    rcases rows_off h.ro h.rl (by decide) with e | e
    · rw [e]; simp
    · simpa [Value.ownBlock] using e
  have hf : fv.ownBlock ≠ some g := by
    rcases off_none' h with e | e
    · rw [e]; simp
    · simpa [Value.ownBlock] using e
  exact ⟨⟨(Below.heap_setCell _ _ _ _ hbg).trans h.blk, (h.rl.stored j u).1, ownsRow_setCell_other h.ro (a := ⟨g, j, none⟩) ho u, ownsRow_setCell_other h.rf (a := ⟨g, j, none⟩) hf u, h.off⟩,
    (Turned.refl _ w).setCell (.inl (by simp [rb, Value.ownBlock])) _⟩
/-- 'On[j] = t'. -/
theorem RfP.setO {g n cap : Nat} (h : RfP w b m lv nl Ls (.slice (some ⟨g, 0, none⟩) n cap) n Os fv nf Fs) (j : Nat) (u : Value) :
    RfP (w.setCell ⟨g, j, none⟩ u) b m lv nl Ls (.slice (some ⟨g, 0, none⟩) n cap) n (Os.set j u) fv nf Fs ∧ Turned (rb b lv (.slice (some ⟨g, 0, none⟩) n cap) fv) w (w.setCell ⟨g, j, none⟩ u) := by
  have hbg : b ≠ g := fun e => block_off h.blk h.ro (by decide) (by simp [Value.ownBlock, e])
  have hl : lv.ownBlock ≠ some g := by
    rcases rows_off h.rl h.ro (by decide) with e | e
    · rw [e]; simp
    · simpa [Value.ownBlock] using e
  have hf : fv.ownBlock ≠ some g := by
    rcases rows_off h.rf h.ro (by decide) with e | e
    · rw [e]; simp
    · simpa [Value.ownBlock] using e
  exact ⟨⟨(Below.heap_setCell _ _ _ _ hbg).trans h.blk, ownsRow_setCell_other h.rl (a := ⟨g, j, none⟩) hl u, (h.ro.stored j u).1, ownsRow_setCell_other h.rf (a := ⟨g, j, none⟩) hf u, h.off⟩,
    (Turned.refl _ w).setCell (.inl (by simp [rb, Value.ownBlock])) _⟩
/-- A cell of L, of On. -/
theorem RfP.cellL {g n cap : Nat} (h : RfP w b m (.slice (some ⟨g, 0, none⟩) n cap) n Ls ov no Os fv nf Fs) {j : Nat} {u : Value} (hj : Ls[j]? = some u) : w.cell? ⟨g, j, none⟩ = some u ∧ w.frozen? ⟨g, j, none⟩ = false := by
  have hl := (List.getElem?_eq_some_iff.1 hj).1
  have := h.rl.1
  exact ⟨by rw [h.rl.cellAt _ (by omega)]; exact hj, h.rl.frozenAt _⟩
theorem RfP.cellO {g n cap : Nat} (h : RfP w b m lv nl Ls (.slice (some ⟨g, 0, none⟩) n cap) n Os fv nf Fs) {j : Nat} {u : Value} (hj : Os[j]? = some u) : w.cell? ⟨g, j, none⟩ = some u ∧ w.frozen? ⟨g, j, none⟩ = false := by
  have hl := (List.getElem?_eq_some_iff.1 hj).1
  have := h.ro.1
  exact ⟨by rw [h.ro.cellAt _ (by omega)]; exact hj, h.ro.frozenAt _⟩
theorem RfP.cellF {g n cap : Nat} (h : RfP w b m lv nl Ls ov no Os (.slice (some ⟨g, 0, none⟩) n cap) n Fs) {j : Nat} {u : Value} (hj : Fs[j]? = some u) : w.cell? ⟨g, j, none⟩ = some u ∧ w.frozen? ⟨g, j, none⟩ = false := by
  have hl := (List.getElem?_eq_some_iff.1 hj).1
  have := h.rf.1
  exact ⟨by rw [h.rf.cellAt _ (by omega)]; exact hj, h.rf.frozenAt _⟩
end
end Go.Proofs.Ytiicbmgompnehaa
