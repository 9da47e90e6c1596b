/-
  The document's queue: New, At, Push, Take.
-/
import Derived.Test.YtnoiifnknkakoaaChecked
import Derived.Test.YtnoiifnknkakoaaLst
import Derived.Lib.Hide
import Derived.Deep.QuietTactic
import Derived.BigQuiet
import Derived.Deep.RegionLaw
namespace Go.Proofs.Ytnoiifnknkakoaa
open Go.RowKit

/-- An item: its ticket, its value. -/
abbrev Ft := Int × Int
abbrev encFt (x : Ft) : List Value := [.int .i64 x.1, .int .i64 x.2]
theorem encFt_len (x : Ft) : (encFt x).length = 2 := rfl
theorem encFt_one (x : Ft) : ∀ u ∈ encFt x, u.oneCell' = true := by
  intro u hu
  simp at hu
  rcases hu with rfl | rfl <;> rfl
abbrev tQ5 : TypeId := 46
abbrev tI5 : TypeId := 43
abbrev csQ (m last : Int) (v : Value) : Array Value := #[.int .i64 m, .int .i64 last, v]
/-- Block b holds the document's queue: room m, last ticket, items L. -/
abbrev R5 (w : World) (b : Nat) (X : List Nat) (m last : Int) (L : List Ft) : Prop := LAt tQ5 tI5 2 encFt (csQ m last) w b X L

/-- The place of a ticket; below 0. -/
def atI (L : List Ft) (t : Int) : Int := placeI (fun x => decide (x.1 = t)) L

theorem cellsQ {w : World} {b : Nat} {x y z : Value} {t : TypeId} (h : w.heap[b]? = some (.cells #[x, y, z] t (0, 0))) :
    w.cell? ⟨b, 0, none⟩ = some x ∧ w.cell? ⟨b, 1, none⟩ = some y ∧ w.cell? ⟨b, 2, none⟩ = some z ∧ ∀ i, w.frozen? ⟨b, i, none⟩ = false := by
  refine ⟨by simp [World.cell?, h], by simp [World.cell?, h], by simp [World.cell?, h], fun i => frozen_of_row w b i _ t h⟩
/-- The row of a queue, opened. -/
theorem R5.rows {w : World} {b : Nat} {X : List Nat} {m last : Int} {L : List Ft} (h : R5 w b X m last L) :
    ∃ a cap, w.cell? ⟨b, 0, none⟩ = some (.int .i64 m) ∧ w.cell? ⟨b, 1, none⟩ = some (.int .i64 last) ∧ w.cell? ⟨b, 2, none⟩ = some (.slice a L.length cap) ∧
      ∀ j (_ : j < L.length), ∃ g, a = some ⟨g, 0, none⟩ ∧ w.cell? ⟨g, j * 2, none⟩ = some (.int .i64 (L.getD j (0, 0)).1) ∧ w.cell? ⟨g, j * 2 + 1, none⟩ = some (.int .i64 (L.getD j (0, 0)).2) := by
  obtain ⟨a, cap, h1, h2, h3, hc, hm, hg⟩ := h.view
  obtain ⟨c0, c1, c2, _⟩ := cellsQ h1
  refine ⟨a, cap, c0, c1, c2, fun j hj => ?_⟩
  obtain ⟨g, hg | hg⟩ := hg j hj
  · obtain ⟨rfl, hbg⟩ := hg
    have r := row_cells encFt_len h2 hj
    have hd : L.getD j (0, 0) = L[j] := by simp [List.getD, hj]
    rw [hd]
    exact ⟨g, rfl, (r 0 (by omega)).1, (r 1 (by omega)).1⟩
  · exact absurd hg (by decide)

set_option maxHeartbeats 400000 in
theorem rat_any {w : World} {b : Nat} {X : List Nat} {m last : Int} {L : List Ft} (h : R5 w b X m last L) (t : Int) :
    Calls Try.prog 14 #[.pointer (some ⟨b, 0, none⟩), .int .i64 t] w fun e w' => e = .returned (.int .i64 (atI L t)) ∧ w = w' := by
  have hlen : L.length ≤ maxLen := by obtain ⟨a, cap, _, _, _, hc, hm, _⟩ := h.view; omega
  obtain ⟨a, cap, c0, c1, c2, hr⟩ := h.rows
  have HR := Lib.hid hr
  unfold maxLen at hlen
  clear h hr
  go_enter Try.func14, Try.ntmps14
  go_wp2
  go_loop [5] (fun i => ∃ k : Nat, i = .int .i64 k ∧ k ≤ L.length ∧ Hid (∀ j (hj : j < L.length), j < k → decide (L[j].1 = t) = false)) (fun i => L.length - (intOf i).toNat)
  case atStart => exact ⟨0, rfl, by omega, Lib.hid fun j hj h => by omega⟩
  case round =>
    obtain ⟨k, rfl, hk, HP⟩ := hrel
    by_cases hlt : k < L.length
    · obtain ⟨g, rfl, r0, r1⟩ := HR.out k hlt
      have i0 : (0 : Int) ≤ k := by omega
      have i1 : (k : Int) < L.length := by omega
      have hd : L.getD k (0, 0) = L[k] := by simp [List.getD, hlt]
      have HD := Lib.hid hd
      obtain ⟨y, hy⟩ : ∃ y, (L.getD k (0, 0)).1 = y := ⟨_, rfl⟩
      rw [hy] at r0
      have HY := Lib.hid hy
      clear hy hd r1
      by_cases hp : y = t
      · subst hp
        go_wp2
        go_ret
        have h1 := HY.out
        rw [HD.out] at h1
        rw [atI, place_some hlt (by simpa using h1) HP.out]
        exact ⟨rfl, rfl⟩
      · go_wp2
        go_round
        case rel =>
          refine ⟨k + 1, by go_num, by omega, Lib.hid fun j hj hjk => ?_⟩
          by_cases e : j = k
          · subst e
            have h1 := HY.out
            rw [HD.out] at h1
            rw [h1]
            simpa using hp
          · exact HP.out j hj (by omega)
        case measure => simp [intOf]; omega
    · have hk' : k = L.length := by omega
      subst hk'
      go_wp2
      go_ret
      rw [atI, place_none fun j hj => HP.out j hj hj]
      exact ⟨rfl, rfl⟩

theorem infoI5 : (Try.prog.info? tI5).map (fun i => (i.zero, i.size, i.bytes)) = some (some (.agg #[.int .i64 0, .int .i64 0]), 2, 16) := by kernel_rfl
theorem two_new_at (w : World) (B : Nat) (hB : w.heap.size = B) (x y : Value) (t : TypeId) : ∀ j u, [x, y][j]? = some u → (w.alloc (.cells #[x, y] t)).cell? ((⟨B, 0, none⟩ : Addr).add j) = some u := by
  subst hB
  intro j u hj
  have hh := heap_alloc_new w (.cells #[x, y] t)
  rw [Addr.add_lit]
  simp only [World.cell?, hh]
  match j, hj with
  | 0, hj => simpa using hj
  | 1, hj => simpa using hj

set_option maxHeartbeats 400000 in
theorem rnew5_any (m : Int) (w : World) : Calls Try.prog 8 #[.int .i64 m] w fun e w' => e = .returned (.pointer (some ⟨w.heap.size, 0, none⟩)) ∧
    R5 w' w.heap.size [w.heap.size] (min (max m 0) 4096) 0 [] ∧ Turned [] w w' := by
  have hfin : ∀ q : Int, R5 (w.alloc (.cells #[.int .i64 q, .int .i64 0, .slice none 0 0] tQ5)) w.heap.size [w.heap.size] q 0 [] ∧ Turned [] w (w.alloc (.cells #[.int .i64 q, .int .i64 0, .slice none 0 0] tQ5)) :=
    fun q => ⟨⟨.slice none 0 0, heap_alloc_new w _, World.ownsRow_nil _ _ _ _, rfl⟩, (Turned.refl _ w).alloc _⟩
  have HF := Lib.hid hfin
  clear hfin
  by_cases h0 : m < 0
  · rw [show min (max m 0) 4096 = 0 by omega]
    go_enter Try.func8, Try.ntmps8
    go_wp2
    go_ret
    exact ⟨rfl, HF.out 0⟩
  · by_cases h1 : m > 4096
    · rw [show min (max m 0) 4096 = 4096 by omega]
      have h1' : 4096 < m := by omega
      clear h1
      go_enter Try.func8, Try.ntmps8
      go_wp2
      go_ret
      exact ⟨rfl, HF.out 4096⟩
    · rw [show min (max m 0) 4096 = m by omega]
      have h0' : 0 ≤ m := by omega
      have h1' : m ≤ 4096 := by omega
      clear h0 h1
      go_enter Try.func8, Try.ntmps8
      go_wp2
      go_ret
      exact ⟨rfl, HF.out m⟩

set_option maxHeartbeats 400000 in
theorem rpush5_full {w : World} {b : Nat} {X : List Nat} {m last : Int} {L : List Ft} (h : R5 w b X m last L) (v : Int) (hm : m ≤ L.length) :
    Calls Try.prog 10 #[.pointer (some ⟨b, 0, none⟩), .int .i64 v] w fun e w' => e = .returned (.tuple #[.int .i64 0, .int .i64 3]) ∧ ∃ n, w' = w.drewN n := by
  obtain ⟨a, cap, c0, c1, c2, hr⟩ := h.rows
  clear h hr
  go_enter Try.func10, Try.ntmps10
  go_wp2
  go_quiet (fail)
  go_wp2
  go_ret2
  exact ⟨rfl, _, rfl⟩

set_option maxRecDepth 100000 in
set_option maxHeartbeats 800000 in
theorem rpush5_yes {w : World} {b : Nat} {X : List Nat} {m last : Int} {L : List Ft} (h : R5 w b X m last L) (v : Int) (hm : (L.length : Int) < m) (hL : L.length ≤ 1000000) (hl0 : 0 ≤ last) (hl1 : last ≤ 1000000) :
    Calls Try.prog 10 #[.pointer (some ⟨b, 0, none⟩), .int .i64 v] w fun e w' => e = .returned (.tuple #[.int .i64 (last + 1), .int .i64 0]) ∧
      ∃ X', R5 w' b X' m (last + 1) (L ++ [(last + 1, v)]) ∧ Turned X w w' ∧ Newer X w.heap.size X' := by
  have hb := h.lt b h.head
  have F := fun n => LAt.field (w := w.drewN n) (cs' := csQ m (last + 1)) (i := 1) (u := .int .i64 (last + 1)) h (by decide) (fun _ => rfl)
  have HF := Lib.hid F
  obtain ⟨a, cap, h1, h2, h3, hc1, hc2, hg⟩ := h.view
  obtain ⟨c0, c1, c2, hfr⟩ := cellsQ h1
  have f1 := hfr 1
  have hm' : decide (m ≤ (L.length : Int)) = false := by simpa using hm
  obtain ⟨ii, hi, hz0, hz1, hz2⟩ := info_parts infoI5
  have hw1 : IntKind.i64.wrap (last + 1) = last + 1 := by rw [IntKind.wrap_i64]; omega
  clear h h1 h2 h3 hfr F hg
  go_enter Try.func10, Try.ntmps10
  go_wp2
  go_quiet (fail)
  go_wp2_with (fail)
  obtain ⟨W, hW⟩ : ∃ W, (w.drewN nq).setCell ⟨b, 1, none⟩ (.int .i64 (last + 1)) = W := ⟨_, rfl⟩
  have hF := HF.out nq
  rw [hW] at hF ⊢
  obtain ⟨hR, hT⟩ := hF
  have T0 := Lib.hid (((Turned.refl X w).drewN nq).trans hT (Newer.refl _ _))
  have n1 : b < W.heap.size := hR.lt b hR.head
  obtain ⟨a', cap', k1, k2, k3, kc1, kc2, _⟩ := hR.view
  have H1 := Lib.hid k1
  have H2 := Lib.hid k2
  have H3 := Lib.hid k3
  have e0 : W.cell? ⟨b, 1, none⟩ = some (.int .i64 (last + 1)) := (cellsQ k1).2.1
  have e1 : W.cell? ⟨b, 2, none⟩ = some (.slice a' L.length cap') := (cellsQ k1).2.2.1
  have g1 : W.frozen? ⟨b, 2, none⟩ = false := (cellsQ k1).2.2.2 2
  clear c0 c1 c2 f1 hW k1 k2 k3 hR hT HF
  go_region_law (refine step_append_any _ rfl _ _ 44 rfl tI5 ii (.agg #[.int .i64 0, .int .i64 0]) 2 16 Try.underlying44 hi hz0 hz1 hz2 rfl (by decide) _ L.length (cellsOf encFt L) rfl (H2.out.alloc _) (some ⟨W.heap.size, 0, none⟩) 1 1 [.int .i64 (last + 1), .int .i64 v] rfl rfl (by simp) (by intro ad had; cases had; exact two_new_at _ W.heap.size rfl _ _ _) (by intro u hu; simp at hu; rcases hu with rfl | rfl <;> rfl) (by unfold maxLen; omega) (by omega) ?_; intro a2 cap2 W1 hown hgrow hnew; have R := LAt.appended (enc := encFt) (cs := csQ m (last + 1)) (i := 2) (v' := .slice a2 (L.length + 1) cap2) (M := L ++ [(last + 1, v)]) (by decide) rfl H1.out H2.out (((Turned.refl [] W).alloc _).drew) hgrow (by rw [cellsOf_snoc, List.length_append]; exact hown) hnew; have d0 := (cellsQ R.1).2.1; have d1 := (cellsQ R.1).2.2.1; have d2 := (cellsQ R.1).2.2.2 2; have RR := Lib.hid R.2; clear hown hgrow hnew R)
  all_goals
    go_wp2
    go_ret2
    obtain ⟨r1, r2, r3⟩ := RR.out
    have hX := H3.out
    rw [← hX] at r2 r3
    exact ⟨rfl, _, r1, T0.out.trans r2 (Newer.refl _ _), r3.mono T0.out.size⟩

set_option maxHeartbeats 800000 in
theorem rtake5_no {w : World} {b : Nat} {X : List Nat} {m last : Int} {L : List Ft} (h : R5 w b X m last L) (i : Int) (hi : i < 0 ∨ (L.length : Int) ≤ i) :
    Calls Try.prog 12 #[.pointer (some ⟨b, 0, none⟩), .int .i64 i] w fun e w' => e = .returned (.tuple #[.int .i64 0, .bool false]) ∧ w = w' := by
  obtain ⟨a, cap, c0, c1, c2, hr⟩ := h.rows
  clear h hr
  by_cases h0 : i < 0
  · have h1 : decide (i < 0) = true := by simpa using h0
    clear hi
    go_enter Try.func12, Try.ntmps12
    go_wp2
    go_ret2
    exact ⟨rfl, rfl⟩
  · have h1 : decide (i < 0) = false := by simpa using h0
    have h2' : (L.length : Int) ≤ i := by omega
    have h2 : decide ((L.length : Int) ≤ i) = true := by simpa using h2'
    clear hi h0
    go_enter Try.func12, Try.ntmps12
    go_wp2
    go_ret2
    exact ⟨rfl, rfl⟩
end Go.Proofs.Ytnoiifnknkakoaa
