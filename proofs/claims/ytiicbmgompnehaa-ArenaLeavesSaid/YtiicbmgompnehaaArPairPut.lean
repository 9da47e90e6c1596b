/-
  (*Arena[[2]int]).Put into an arena that has room, and of which nothing was dropped.
-/
import Derived.Test.YtiicbmgompnehaaArPair
import Derived.StillTailTactics
namespace Go.Proofs.Ytiicbmgompnehaa.Pr
open Go.RowKit

/-- Behind 'a.slots[j] = slot{v, t}'. -/
theorem stored {w : World} {b : Nat} {m : Int} {S : List ((Int × Int) × Bool)} {F : List Nat} {g cap n : Nat} {fv : Value} (hn : n = S.length) (h1 : w.heap[b]? = some (.cells #[.int .i64 m, .slice (some ⟨g, 0, none⟩) n cap, fv] 69 (0, 0)))
    (h2 : w.ownsRow 0 71 3 (.slice (some ⟨g, 0, none⟩) n cap) n (slots encP S)) (h3 : w.ownsRow 0 3 1 fv F.length (places F)) (j : Nat) (v : Int × Int) (t : Bool) :
    ArP (((w.setCell ⟨g, j * 3, none⟩ (.int .i64 v.1)).setCell ⟨g, j * 3 + 1, none⟩ (.int .i64 v.2)).setCell ⟨g, j * 3 + 2, none⟩ (.bool t)) b (b :: ([g] ++ fv.ownBlock.toList)) m (S.set j (v, t)) F ∧
      Turned (b :: ([g] ++ fv.ownBlock.toList)) w (((w.setCell ⟨g, j * 3, none⟩ (.int .i64 v.1)).setCell ⟨g, j * 3 + 1, none⟩ (.int .i64 v.2)).setCell ⟨g, j * 3 + 2, none⟩ (.bool t)) := by
  have hbg : b ≠ g := fun h => block_off h1 h2 (by decide) (by simp [Value.ownBlock, h])
  have hfg : fv.ownBlock ≠ some g := by
    rcases rows_off h3 h2 (by decide) with h | h
    · rw [h]; simp
    · simpa [Value.ownBlock] using h
  have s1 := h2.stored (j * 3) (.int .i64 v.1)
  have s2 := s1.1.stored (j * 3 + 1) (.int .i64 v.2)
  have s3 := s2.1.stored (j * 3 + 2) (.bool t)
  have h3' := ownsRow_setCell_other (ownsRow_setCell_other (ownsRow_setCell_other h3 (a := ⟨g, j * 3, none⟩) hfg (.int .i64 v.1)) (a := ⟨g, j * 3 + 1, none⟩) hfg (.int .i64 v.2)) (a := ⟨g, j * 3 + 2, none⟩) hfg (.bool t)
  refine ⟨⟨.slice (some ⟨g, 0, none⟩) n cap, fv, ?_, ?_, h3', rfl⟩, ?_⟩
  · rw [Below.heap_setCell _ _ _ _ hbg, Below.heap_setCell _ _ _ _ hbg, Below.heap_setCell _ _ _ _ hbg]
    exact h1
  · have := s3.1
    rw [← slots_set2 (e0 := fun x : Int × Int => .int .i64 x.1) (e1 := fun x : Int × Int => .int .i64 x.2) S j (v, t)] at this
    subst hn
    simpa using this
  · exact (((Turned.refl _ w).setCell (.inl (by simp)) _).setCell (.inl (by simp)) _).setCell (.inl (by simp)) _

set_option maxHeartbeats 800000 in
theorem put_new {w : World} {b : Nat} {X : List Nat} {m : Int} {S : List ((Int × Int) × Bool)} (h : ArP w b X m S []) (v : Int × Int) (hS : S.length ≤ 1000000) (hm : (S.length : Int) - ([] : List Nat).length ≠ m) :
    Calls Try.prog 21 #[.pointer (some ⟨b, 0, none⟩), .agg #[.int .i64 v.1, .int .i64 v.2]] w fun e w' => e = .returned (.tuple #[.int .i64 (S.length : Int), .int .i64 0]) ∧
      ∃ X', ArP w' b X' m (S ++ [(v, true)]) [] ∧ Turned X w w' ∧ Newer X w.heap.size X' := by
  have td : Turned [] w (w.alloc (.cells #[.int .i64 v.1, .int .i64 v.2] 50)) := (Turned.refl _ _).alloc _
  have hx := h.lt
  have hd := h.keep td (by simp)
  have HL := Lib.hid (fun q : Nat => len_any (w := (w.alloc (.cells #[.int .i64 v.1, .int .i64 v.2] 50)).drewN q) hd hS (by simp))
  have HO := Lib.hid (fun q : Nat => open_new (w := (w.alloc (.cells #[.int .i64 v.1, .int .i64 v.2] 50)).drewN q) hd hS)
  have HX := Lib.hid hx
  obtain ⟨sv, fv, h1, h2, h3, _⟩ := h
  have hbl := lt_of_block h1
  obtain ⟨c0, _, _, _⟩ := cells3 h1
  have hb : ((S.length : Int) == m) = false := by rw [beq_eq_false_iff_ne]; simpa using hm
  have hne : b ≠ w.heap.size := by omega
  clear h1 h2 h3 hm td hx hd
  go_enter Try.func21, Try.ntmps21
  go_wp2
  go_quiet ((go_at_call 34; exact Calls.quiet_of (HL.out _)))
  go_wp2_with fail
  refine (HO.out _).mono ?_
  rintro e w1 ⟨rfl, X1, hA, hT, hN⟩
  have hbox : w1.heap[w.heap.size]? = some (.cells #[.int .i64 v.1, .int .i64 v.2] 50 (0, 0)) := hT.same (heap_alloc_new w _) (fun hm => by have := HX.out _ hm; omega)
  have b0 : w1.cell? ⟨w.heap.size, 0, none⟩ = some (.int .i64 v.1) := by simp [World.cell?, hbox]
  have b1 : w1.cell? ⟨w.heap.size, 1, none⟩ = some (.int .i64 v.2) := by simp [World.cell?, hbox]
  have HT := Lib.hid hT
  have HN := Lib.hid hN
  obtain ⟨sv1, fv1, k1, k2, k3, hX1⟩ := hA
  have hl : (S ++ [(((0, 0) : Int × Int), false)]).length = S.length + 1 := by simp
  rw [hl] at k2
  obtain ⟨g, cap, rfl, _, _⟩ := ownsRow_pos k2 (by omega)
  have R := stored hl.symm k1 k2 k3 S.length v true
  obtain ⟨s0, s1, s2, f0, f1, f2⟩ := slot_cells (j := S.length) (v := (0, 0)) (t := false) (by rw [hl]; exact k2) rfl (by simp)
  obtain ⟨_, d1, _, _⟩ := cells3 k1
  have i0 : (0 : Int) ≤ (S.length : Int) := by omega
  have i1 : (S.length : Int) < (S.length : Int) + 1 := by omega
  have RR := Lib.hid R
  have HX1 := Lib.hid hX1
  clear hT hN k1 k2 k3 hl R hX1 c0 hb hbox hne
  go_wp2
  go_region
  go_wp2
  go_ret2
  obtain rfl : X1 = b :: ([g] ++ fv1.ownBlock.toList) := HX1.out
  have hA := RR.out.1
  rw [List.set_append_right _ _ (Nat.le_refl _), Nat.sub_self] at hA
  have hN : Newer X w.heap.size (b :: ([g] ++ fv1.ownBlock.toList)) := HN.out.mono (by simp)
  have hT := ((((Turned.refl X w).alloc _).drewN _).trans HT.out (Newer.refl _ _)).trans RR.out.2 hN
  exact ⟨rfl, _, hA, hT.drew, hN⟩
end Go.Proofs.Ytiicbmgompnehaa.Pr
