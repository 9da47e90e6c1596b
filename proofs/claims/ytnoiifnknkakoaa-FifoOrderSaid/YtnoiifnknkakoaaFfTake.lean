/-
  The document's queue: Take off a place.
-/
import Derived.Test.YtnoiifnknkakoaaFfRef
namespace Go.Proofs.Ytnoiifnknkakoaa
open Go.RowKit

set_option maxRecDepth 100000 in
set_option maxHeartbeats 1600000 in
theorem rtake5_at {w : World} {b : Nat} {X : List Nat} {m last : Int} {L : List Ft} (h : R5 w b X m last L) (j : Nat) (hj : j < L.length) (hL : L.length ≤ 1000000) :
    Calls Try.prog 12 #[.pointer (some ⟨b, 0, none⟩), .int .i64 (j : Int)] w fun e w' => e = .returned (.tuple #[.int .i64 (L.getD j (0, 0)).2, .bool true]) ∧
      ∃ X', R5 w' b X' m last (L.eraseIdx j) ∧ Turned X w w' ∧ Newer X w.heap.size X' := by
  have hb := h.lt b h.head
  obtain ⟨a, cap, h1, h2, h3, hc1, hc2, hg⟩ := h.view
  obtain ⟨g, hg | hg⟩ := hg j hj
  case inr => exact absurd hg (by decide)
  obtain ⟨rfl, hbg⟩ := hg
  have hgl : g < w.heap.size := ownsRow_lt h2 g (by simp [Value.ownBlock])
  have r := row_cells encFt_len h2 hj
  have hd : L.getD j (0, 0) = L[j] := by simp [List.getD, hj]
  have r1 := (r 1 (by omega)).1
  rw [hd]
  generalize L[j] = x at r1
  obtain ⟨x1, x2⟩ := x
  simp only [encFt, List.getElem?_cons_zero, List.getElem?_cons_succ] at r1 ⊢
  have c1 := (cellsQ h1).2.2.1
  have j0 : (0 : Int) ≤ j := by omega
  have j1 : (j : Int) < L.length := by omega
  have H1 := Lib.hid h1
  have H2 := Lib.hid h2
  have H3 := Lib.hid h3
  obtain ⟨ii, hi, hz0, hz1, hz2⟩ := info_parts infoI5
  have hw1 : IntKind.i64.wrap ((j : Int) + 1) = (j : Int) + 1 := by rw [IntKind.wrap_i64]; omega
  have n7 : (0 : Int) ≤ (j : Int) + 1 := by omega
  clear h h1 h2 h3 r hd hg
  go_enter Try.func12, Try.ntmps12
  go_wp2
  have T0 : Turned [] w w := Turned.refl [] w
  have n0 : b < w.heap.size := hb
  have n1 : g < w.heap.size := hgl
  have n2 : j ≤ cap := by omega
  have n3 : (j : Int) + 1 ≤ L.length := by omega
  have n4 : j + 1 ≤ L.length := by omega
  have n5 : j + 1 ≤ cap := by omega
  have n6 : L.length ≤ cap := hc1
  have H1 := Lib.hid (T0.same H1.out (by simp))
  have H2 := Lib.hid (ownsRow_same H2.out fun k _ hl => T0.block k hl (by simp))
  have T0 := Lib.hid T0
  have e1 : w.cell? ⟨b, 2, none⟩ = some (.slice (some ⟨g, 0, none⟩) L.length cap) := (cellsQ H1.out).2.2.1
  have g1 : w.frozen? ⟨b, 2, none⟩ = false := (cellsQ H1.out).2.2.2 2
  clear c1 r1
  go_region_law (first
    | (refine step_append_any _ rfl (.tmp 27) (.tmp 33) 44 rfl tI5 ii (.agg #[.int .i64 0, .int .i64 0]) 2 16 Try.underlying44 hi hz0 hz1 hz2 rfl (by decide) (.slice (some ⟨w.heap.size, 0, none⟩) 0 0) 0 [] rfl (ownsRow_empty w tI5 2) (some ⟨g, 0, none⟩) j cap (cellsOf encFt (L.take j)) rfl (by rw [cellsOf_len encFt_len, List.length_take, Nat.min_eq_left (by omega)]) (by intro h; cases h) (by intro ad had; cases had; exact cells_take encFt_len H2.out (((Turned.refl [] w).alloc _).drew) j) (cells_one encFt_one _) (by unfold maxLen; omega) (by omega) ?_
       intro a1 cap1 W1 hown1 hgrow1 hnew1
       rw [Nat.zero_add, List.nil_append] at hown1
       rw [Nat.zero_add] at hnew1
       have t1 : Turned [] w W1 := Turned.grown (((Turned.refl [] w).alloc _).drew) hgrow1 (fun k hk => .inr (by simp [Value.ownBlock] at hk; omega))
       have e1' : W1.cell? ⟨b, 2, none⟩ = some (.slice (some ⟨g, 0, none⟩) L.length cap) := (cellsQ (t1.same H1.out (by simp))).2.2.1
       have HO1 := Lib.hid hown1
       have hn1 : ∀ q ∈ (Value.slice a1 j cap1).ownBlock.toList, w.heap.size ≤ q := fun q hq => by
         rcases hnew1 q hq with h | h
         · simp [Value.ownBlock] at h
           omega
         · have h' : w.heap.size + 1 ≤ q := by simpa using h
           omega
       have HN1 := Lib.hid hn1
       have HT1 := Lib.hid t1
       clear hown1 hgrow1 hnew1 t1 hn1)
    | (refine step_append_any _ rfl (.tmp 34) (.tmp 41) 44 rfl tI5 ii (.agg #[.int .i64 0, .int .i64 0]) 2 16 Try.underlying44 hi hz0 hz1 hz2 rfl (by decide) _ _ _ rfl HO1.out (if cap = j + 1 then some ⟨g, 0, none⟩ else some ⟨g, (j + 1) * 2, none⟩) (L.length - (j + 1)) (cap - (j + 1)) (cellsOf encFt (L.drop (j + 1))) rfl (by rw [cellsOf_len encFt_len, List.length_drop]) (by intro h; split at h <;> cases h) (cells_tail encFt_len H2.out HT1.out (j + 1) n6) (cells_one encFt_one _) (by unfold maxLen; omega) (by omega) ?_
       intro a2 cap2 W2 hown2 hgrow2 hnew2
       have t2 : Turned [] w W2 := Turned.grown HT1.out hgrow2 (fun k hk => .inr (HN1.out k (by rw [Option.mem_toList]; exact hk)))
       have hn2 : ∀ q ∈ (Value.slice a2 (j + (L.length - (j + 1))) cap2).ownBlock.toList, w.heap.size ≤ q := fun q hq => by
         rcases hnew2 q hq with h | h
         · exact HN1.out q h
         · have := HT1.out.size
           omega
       have e2' : W2.cell? ⟨b, 2, none⟩ = some (.slice (some ⟨g, 0, none⟩) L.length cap) := (cellsQ (t2.same H1.out (by simp))).2.2.1
       have e3' : W2.frozen? ⟨b, 2, none⟩ = false := (cellsQ (t2.same H1.out (by simp))).2.2.2 2
       have HO2 := Lib.hid hown2
       have HN2 := Lib.hid hn2
       have HT2 := Lib.hid t2
       clear hown2 hgrow2 hnew2 t2 hn2))
  all_goals
    have hM : cellsOf encFt (L.take j) ++ cellsOf encFt (L.drop (j + 1)) = cellsOf encFt (L.eraseIdx j) := by rw [← cellsOf_append, take_drop_erase]
    have hl : j + (L.length - (j + 1)) = (L.eraseIdx j).length := by rw [List.length_eraseIdx, if_pos hj]; omega
    have R := LAt.stored (w := w) (tS := tQ5) (tE := tI5) (k := 2) (enc := encFt) (cs := csQ m last) (i := 2) (v' := .slice a2 (j + (L.length - (j + 1))) cap2) (M := L.eraseIdx j) (by decide) rfl (HT2.out.same H1.out (by simp)) (by rw [← hl, ← hM]; exact HO2.out) (X := X) (by rw [H3.out]; simp) (HT2.out.mono (fun k hk => by simp at hk)) (fun q hq => .inr (HN2.out q hq))
    have RR := Lib.hid R
    generalize W2.setCell ⟨b, 2, none⟩ (.slice a2 (j + (L.length - (j + 1))) cap2) = V at RR ⊢
    clear hM hl R
    go_wp2
    all_goals
      go_ret2
      obtain ⟨q1, q2, q3⟩ := RR.out
      exact ⟨rfl, _, q1, (T0.out.mono (fun k hk => by simp at hk)).trans q2 (Newer.refl _ _), q3.mono T0.out.size⟩

end Go.Proofs.Ytnoiifnknkakoaa
