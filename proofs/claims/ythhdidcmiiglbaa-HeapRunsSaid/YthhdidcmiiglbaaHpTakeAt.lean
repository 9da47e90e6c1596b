/-
  The document's heap: Take.
-/
import Derived.Test.YthhdidcmiiglbaaHpTake
import Derived.Laws.ResultCell
namespace Go.Proofs.Ythhdidcmiiglbaa
open Go.RowKit

theorem item_cells {w : World} {B : Nat} {x y z : Value} {t : TypeId} (h : w.heap[B]? = some (.cells #[x, y, z] t (0, 0))) :
    w.cell? ⟨B, 0, none⟩ = some x ∧ w.cell? ⟨B, 1, none⟩ = some y ∧ w.cell? ⟨B, 2, none⟩ = some z := by
  refine ⟨by simp [World.cell?, h], by simp [World.cell?, h], by simp [World.cell?, h]⟩
theorem item_result {fn : Func} {p u : Tmp} (hf : fn.results = #[.cell p tI4, .tmp u]) {tmps : Array Value} {w : World} {B : Nat} {x y z v : Value} (hp : tmps.getD p undef = .pointer (some ⟨B, 0, none⟩)) (hu : tmps.getD u undef = v) (h : w.heap[B]? = some (.cells #[x, y, z] tI4 (0, 0))) :
    (results fn tmps).run Try.prog w = .ok (.tuple #[.agg #[x, y, z], v]) w := by
  obtain ⟨h0, h1, h2⟩ := item_cells h
  rw [results_cell_tmp hf, hp, hu]
  simp [loadVar, go_sem, h0, h1, h2]
theorem item_stored {w : World} {B : Nat} {x y z x' y' z' : Value} {t : TypeId} (h : w.heap[B]? = some (.cells #[x, y, z] t (0, 0))) :
    (((w.setCell ⟨B, 0, none⟩ x').setCell ⟨B, 1, none⟩ y').setCell ⟨B, 2, none⟩ z').heap[B]? = some (.cells #[x', y', z'] t (0, 0)) := by
  rw [heap_setCell_same _ _ _ _ _ _ (heap_setCell_same _ _ _ _ _ _ (heap_setCell_same _ _ _ _ _ _ h))]
  rfl
theorem encIt_one (x : It) : ∀ u ∈ encIt x, u.oneCell' = true := by
  intro u hu
  simp at hu
  rcases hu with rfl | rfl | rfl <;> rfl

set_option maxHeartbeats 400000 in
theorem rtake_no {w : World} (b : Nat) (i : Int) (hi : i < 0) :
    Calls Try.prog 11 #[.pointer (some ⟨b, 0, none⟩), .int .i64 i] w fun e w' => e = .returned (.tuple #[.agg #[.int .u64 0, .int .i64 0, .int .i64 0], .bool false]) ∧ Turned [] w w' := by
  have HT := Lib.hid ((Turned.refl [] w).alloc (.cells #[.int .u64 0, .int .i64 0, .int .i64 0] tI4))
  have hi' : decide (i < 0) = true := by simpa using hi
  go_enter Try.func11, Try.ntmps11
  go_wp2
  (try simp only [Exit.inBlock, Exit.then])
  refine bodyPost_ret (item_result rfl rfl rfl (heap_alloc_new _ _)) rfl ?_
  exact ⟨rfl, HT.out⟩

set_option maxRecDepth 100000 in
set_option maxHeartbeats 1600000 in
theorem rtake_at {w : World} {b : Nat} {X : List Nat} {m : Int} {L : List It} (h : R4 w b X m L) (j : Nat) (hj : j < L.length) (hL : L.length ≤ 1000000) :
    Calls Try.prog 11 #[.pointer (some ⟨b, 0, none⟩), .int .i64 (j : Int)] w fun e w' => e = .returned (.tuple #[.agg #[.int .u64 (L.getD j (0, 0, 0)).1, .int .i64 (L.getD j (0, 0, 0)).2.1, .int .i64 (L.getD j (0, 0, 0)).2.2], .bool true]) ∧
      ∃ X', R4 w' b X' m (L.eraseIdx j) ∧ Turned X w w' ∧ Newer X w.heap.size X' := by
  have hb := h.lt b h.head
  obtain ⟨a, cap, h1, h2, h3, hc1, hc2, hg⟩ := h.view
  obtain ⟨g, hg | hg⟩ := hg j hj
  case inr => exact absurd hg (by decide)
  obtain ⟨rfl, hbg⟩ := hg
  have hgl : g < w.heap.size := ownsRow_lt h2 g (by simp [Value.ownBlock])
  have r := row_cells encIt_len h2 hj
  have hd : L.getD j (0, 0, 0) = L[j] := by simp [List.getD, hj]
  have r0 := (r 0 (by omega)).1
  have r1 := (r 1 (by omega)).1
  have r2 := (r 2 (by omega)).1
  rw [hd]
  generalize L[j] = x at r0 r1 r2
  obtain ⟨x1, x2, x3⟩ := x
  simp only [encIt, List.getElem?_cons_zero, List.getElem?_cons_succ, Nat.add_zero] at r0 r1 r2 ⊢
  have c1 := (cells2 h1).2.1
  have j0 : (0 : Int) ≤ j := by omega
  have j1 : (j : Int) < L.length := by omega
  have H1 := Lib.hid h1
  have H2 := Lib.hid h2
  have H3 := Lib.hid h3
  obtain ⟨ii, hi, hz0, hz1, hz2⟩ := info_parts infoI4
  have hw1 : IntKind.i64.wrap ((j : Int) + 1) = (j : Int) + 1 := by rw [IntKind.wrap_i64]; omega
  have n7 : (0 : Int) ≤ (j : Int) + 1 := by omega
  clear h h1 h2 h3 r hd hg
  go_enter Try.func11, Try.ntmps11
  go_wp2
  obtain ⟨W, hW⟩ : ∃ W, (w.alloc (.cells #[.int .u64 0, .int .i64 0, .int .i64 0] tI4)).alloc (.cells #[.int .u64 x1, .int .i64 x2, .int .i64 x3] tI4) = W := ⟨_, rfl⟩
  have T0 : Turned [] w W := hW ▸ ((Turned.refl [] w).alloc _).alloc _
  have S0 : W.heap.size = w.heap.size + 2 := by rw [← hW]; simp
  have K0 : W.heap[w.heap.size]? = some (.cells #[.int .u64 0, .int .i64 0, .int .i64 0] tI4 (0, 0)) := by rw [← hW]; exact (Below.heap_alloc _ _ _ (by simp)).trans (heap_alloc_new w _)
  have K1 : W.heap[w.heap.size + 1]? = some (.cells #[.int .u64 x1, .int .i64 x2, .int .i64 x3] tI4 (0, 0)) := by rw [← hW]; exact (by simpa using heap_alloc_new (w.alloc (.cells #[.int .u64 0, .int .i64 0, .int .i64 0] tI4)) (.cells #[.int .u64 x1, .int .i64 x2, .int .i64 x3] tI4))
  have n0 : b < W.heap.size := by omega
  have n1 : g < W.heap.size := by omega
  have n2 : j ≤ cap := by omega
  have n3 : (j : Int) + 1 ≤ L.length := by omega
  have n4 : j + 1 ≤ L.length := by omega
  have n5 : j + 1 ≤ cap := by omega
  have n6 : L.length ≤ cap := hc1
  have H1 := Lib.hid (T0.same H1.out (by simp))
  have H2 := Lib.hid (ownsRow_same H2.out fun k _ hl => T0.block k hl (by simp))
  have T0 := Lib.hid T0
  have HS0 := Lib.hid S0
  have HK0 := Lib.hid K0
  have HK1 := Lib.hid K1
  have e1 : W.cell? ⟨b, 1, none⟩ = some (.slice (some ⟨g, 0, none⟩) L.length cap) := (cells2 H1.out).2.1
  have g1 : W.frozen? ⟨b, 1, none⟩ = false := (cells2 H1.out).2.2 1
  rw [hW]
  clear c1 hW K0 K1 S0 r0 r1 r2
  go_region_law (first
    | (refine step_append_any _ rfl (.tmp 18) (.tmp 24) 46 rfl tI4 ii (.agg #[.int .u64 0, .int .i64 0, .int .i64 0]) 3 24 Try.underlying46 hi hz0 hz1 hz2 rfl (by decide) (.slice (some ⟨W.heap.size, 0, none⟩) 0 0) 0 [] rfl (ownsRow_empty W tI4 3) (some ⟨g, 0, none⟩) j cap (cellsOf encIt (L.take j)) rfl (by rw [cellsOf_len encIt_len, List.length_take, Nat.min_eq_left (by omega)]) (by intro h; cases h) (by intro ad had; cases had; exact cells_take encIt_len H2.out (((Turned.refl [] W).alloc _).drew) j) (cells_one encIt_one _) (by unfold maxLen; omega) (by omega) ?_
       intro a1 cap1 W1 hown1 hgrow1 hnew1
       rw [Nat.zero_add, List.nil_append] at hown1
       rw [Nat.zero_add] at hnew1
       have t1 : Turned [] W W1 := Turned.grown (((Turned.refl [] W).alloc _).drew) hgrow1 (fun k hk => .inr (by simp [Value.ownBlock] at hk; omega))
       have e1' : W1.cell? ⟨b, 1, none⟩ = some (.slice (some ⟨g, 0, none⟩) L.length cap) := (cells2 (t1.same H1.out (by simp))).2.1
       have HO1 := Lib.hid hown1
       have hn1 : ∀ q ∈ (Value.slice a1 j cap1).ownBlock.toList, W.heap.size ≤ q := fun q hq => by
         rcases hnew1 q hq with h | h
         · simp [Value.ownBlock] at h
           omega
         · have h' : W.heap.size + 1 ≤ q := by simpa using h
           omega
       have HN1 := Lib.hid hn1
       have HT1 := Lib.hid t1
       clear hown1 hgrow1 hnew1 t1 hn1)
    | (refine step_append_any _ rfl (.tmp 25) (.tmp 32) 46 rfl tI4 ii (.agg #[.int .u64 0, .int .i64 0, .int .i64 0]) 3 24 Try.underlying46 hi hz0 hz1 hz2 rfl (by decide) _ _ _ rfl HO1.out (if cap = j + 1 then some ⟨g, 0, none⟩ else some ⟨g, (j + 1) * 3, none⟩) (L.length - (j + 1)) (cap - (j + 1)) (cellsOf encIt (L.drop (j + 1))) rfl (by rw [cellsOf_len encIt_len, List.length_drop]) (by intro h; split at h <;> cases h) (cells_tail encIt_len H2.out HT1.out (j + 1) n6) (cells_one encIt_one _) (by unfold maxLen; omega) (by omega) ?_
       intro a2 cap2 W2 hown2 hgrow2 hnew2
       have t2 : Turned [] W W2 := Turned.grown HT1.out hgrow2 (fun k hk => .inr (HN1.out k (by rw [Option.mem_toList]; exact hk)))
       have hn2 : ∀ q ∈ (Value.slice a2 (j + (L.length - (j + 1))) cap2).ownBlock.toList, W.heap.size ≤ q := fun q hq => by
         rcases hnew2 q hq with h | h
         · exact HN1.out q h
         · have := HT1.out.size
           omega
       have e2' : W2.cell? ⟨b, 1, none⟩ = some (.slice (some ⟨g, 0, none⟩) L.length cap) := (cells2 (t2.same H1.out (by simp))).2.1
       have e3' : W2.frozen? ⟨b, 1, none⟩ = false := (cells2 (t2.same H1.out (by simp))).2.2 1
       have HO2 := Lib.hid hown2
       have HN2 := Lib.hid hn2
       have HT2 := Lib.hid t2
       clear hown2 hgrow2 hnew2 t2 hn2))
  all_goals
    have hM : cellsOf encIt (L.take j) ++ cellsOf encIt (L.drop (j + 1)) = cellsOf encIt (L.eraseIdx j) := by rw [← cellsOf_append, take_drop_erase]
    have hl : j + (L.length - (j + 1)) = (L.eraseIdx j).length := by rw [List.length_eraseIdx, if_pos hj]; omega
    have R := LAt.stored (w := W) (tS := tH4) (tE := tI4) (k := 3) (enc := encIt) (cs := fun v => #[.int .i64 m, v]) (i := 1) (v' := .slice a2 (j + (L.length - (j + 1))) cap2) (M := L.eraseIdx j) (by decide) rfl (HT2.out.same H1.out (by simp)) (by rw [← hl, ← hM]; exact HO2.out) (X := X) (by rw [H3.out]; simp) (HT2.out.mono (fun k hk => by simp at hk)) (fun q hq => .inr (HN2.out q hq))
    have k0 := (Below.heap_setCell W2 ⟨b, 1, none⟩ (.slice a2 (j + (L.length - (j + 1))) cap2) w.heap.size (by simp; omega)).trans (HT2.out.same HK0.out (by simp))
    have k1 := (Below.heap_setCell W2 ⟨b, 1, none⟩ (.slice a2 (j + (L.length - (j + 1))) cap2) (w.heap.size + 1) (by simp; omega)).trans (HT2.out.same HK1.out (by simp))
    obtain ⟨p0, p1, p2⟩ := item_cells k1
    obtain ⟨s0, s1, s2⟩ := item_cells k0
    have f0 := fun i => frozen_of_row _ w.heap.size i _ _ k0
    have f00 := f0 0
    have f01 := f0 1
    have f02 := f0 2
    have KK := Lib.hid (item_stored (x' := .int .u64 x1) (y' := .int .i64 x2) (z' := .int .i64 x3) k0)
    have RR := Lib.hid R
    generalize W2.setCell ⟨b, 1, none⟩ (.slice a2 (j + (L.length - (j + 1))) cap2) = V at p0 p1 p2 s0 s1 s2 f00 f01 f02 KK RR ⊢
    clear hM hl R k0 k1 f0
    go_wp2
    all_goals
      (try simp only [Exit.inBlock, Exit.then])
      refine bodyPost_ret (item_result rfl rfl rfl KK.out) rfl ?_
      obtain ⟨q1, q2, q3⟩ := RR.out
      have ht : Turned [w.heap.size] V (((V.setCell ⟨w.heap.size, 0, none⟩ (.int .u64 x1)).setCell ⟨w.heap.size, 1, none⟩ (.int .i64 x2)).setCell ⟨w.heap.size, 2, none⟩ (.int .i64 x3)) := (((Turned.refl _ V).setCell (.inl (by simp)) _).setCell (.inl (by simp)) _).setCell (.inl (by simp)) _
      have hs := HS0.out
      refine ⟨rfl, _, q1.keep ht (fun k hk hw => ?_), ?_, q3.mono (by omega)⟩
      · simp at hw
        subst hw
        rcases List.mem_cons.1 hk with e | hk
        · omega
        · have := HN2.out _ hk
          omega
      · exact ((T0.out.mono (fun k hk => by simp at hk)).trans q2 (Newer.refl _ _)).trans ht (fun k hk => .inr (by simp at hk; omega))

/-- What Take answers, and what is left. -/
def takV (L : List It) (i : Int) : It := if i < 0 then (0, 0, 0) else L.getD i.toNat (0, 0, 0)
def takL (L : List It) (i : Int) : List It := if i < 0 then L else L.eraseIdx i.toNat
theorem rtake_any {w : World} {b : Nat} {X : List Nat} {m : Int} {L : List It} (h : R4 w b X m L) (i : Int) (hi : i < L.length) (hL : L.length ≤ 1000000) :
    Calls Try.prog 11 #[.pointer (some ⟨b, 0, none⟩), .int .i64 i] w fun e w' => e = .returned (.tuple #[.agg #[.int .u64 (takV L i).1, .int .i64 (takV L i).2.1, .int .i64 (takV L i).2.2], .bool (decide (0 ≤ i))]) ∧
      ∃ X', R4 w' b X' m (takL L i) ∧ Turned X w w' ∧ Newer X w.heap.size X' := by
  by_cases h0 : i < 0
  · rw [show decide (0 ≤ i) = false by simp; omega]
    simp only [takV, takL, if_pos h0]
    exact (rtake_no b i h0).mono fun e w' ⟨he, ht⟩ => ⟨he, X, h.keep ht (by simp), ht.mono (fun k hk => by simp at hk), Newer.refl _ _⟩
  · obtain ⟨j, rfl⟩ := Int.eq_ofNat_of_zero_le (show 0 ≤ i by omega)
    rw [show decide ((0 : Int) ≤ (j : Int)) = true by simp]
    simp only [takV, takL, if_neg h0, Int.toNat_natCast]
    exact rtake_at h j (by omega) hL
end Go.Proofs.Ythhdidcmiiglbaa
