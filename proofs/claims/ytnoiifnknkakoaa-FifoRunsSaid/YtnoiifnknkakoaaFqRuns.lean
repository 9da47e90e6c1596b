/-
  FifoRuns: the walk.
-/
import Derived.Test.YtnoiifnknkakoaaFqDuo
import Derived.Test.YtnoiifnknkakoaaFqAwake
import Derived.Deep.DeepCutAuto
import Derived.Deep.CutBlock
import Derived.Deep.RegionHeld3
namespace Go.Proofs.Ytnoiifnknkakoaa
open Go.RowKit Go.Maps

/-- The tickets and the lengths behind k deeds. -/
def Fit5 (k : Nat) (l : Nat → Int) (L : Nat → List Ft) : Prop := (∀ i, i < 2 → 0 ≤ l i ∧ l i ≤ 100 * (k : Int)) ∧ (L 0).length + (L 1).length ≤ k
abbrev tDd : TypeId := 32

theorem fit_any {k : Nat} {l : Nat → Int} {L : Nat → List Ft} (h : Fit5 k l L) {i : Nat} (hi : i < 2) {l1 : Int} {L1 : List Ft} (h0 : 0 ≤ l1) (h1 : l1 ≤ l i + 100) (h2 : L1.length ≤ (L i).length + 1) : Fit5 (k + 1) (upd l i l1) (upd L i L1) := by
  obtain ⟨a1, a2⟩ := h
  refine ⟨fun j hj => ?_, ?_⟩
  · by_cases e : j = i
    · subst e
      rw [upd_same]
      have := a1 j hj
      omega
    · rw [upd_other e]
      have := a1 j hj
      omega
  · match i, hi with
    | 0, _ =>
      rw [upd_same, upd_other (by omega)]
      omega
    | 1, _ =>
      rw [upd_same, upd_other (by omega)]
      omega
theorem fit_later {k : Nat} {l : Nat → Int} {L : Nat → List Ft} (h : Fit5 k l L) : Fit5 (k + 1) l L :=
  ⟨fun j hj => by have := h.1 j hj; omega, by have := h.2; omega⟩
theorem fit_two {k : Nat} {l : Nat → Int} {L : Nat → List Ft} (h : Fit5 k l L) (hk : k ≤ 100) {i j : Nat} (hi : i < 2) (hj : j < 2) (hij : i ≠ j) {K : Nat} {L1 L2 : List Ft} (h1 : K ≤ (L i).length) (h2 : L1.length = (L i).length - K) (h3 : L2.length = (L j).length + K) : Fit5 (k + 1) (two i (l i) (l j + K)) (two i L1 L2) := by
  obtain ⟨a1, a2⟩ := h
  have b1 := a1 i hi
  have b2 := a1 j hj
  have b3 : (L i).length ≤ k := by
    match i, hi with
    | 0, _ => omega
    | 1, _ => omega
  refine ⟨fun p hp => ?_, ?_⟩
  · by_cases e : p = i
    · subst e
      rw [two_same]
      omega
    · rw [two_other e]
      omega
  · match i, j, hi, hj with
    | 0, 0, _, _ => exact absurd rfl hij
    | 0, 1, _, _ =>
      rw [two_same, two_other (by omega)]
      omega
    | 1, 0, _, _ =>
      rw [two_same, two_other (by omega)]
      omega
    | 1, 1, _, _ => exact absurd rfl hij
theorem psN_le (m l : Int) (L : List Ft) : l ≤ psN m l L ∧ psN m l L ≤ l + 1 := by
  unfold psN
  split <;> omega
theorem psL_le (m l : Int) (L : List Ft) (v : Int) : (psL m l L v).length ≤ L.length + 1 := by
  unfold psL
  split <;> simp
theorem tkL_le (L : List Ft) (i : Int) : (tkL L i).length ≤ L.length := by
  unfold tkL
  split
  · exact List.length_eraseIdx_le ..
  · exact Nat.le_refl _
theorem atI_lt (L : List Ft) (t : Int) : -1 ≤ atI L t ∧ atI L t < L.length := place_range _ _
theorem tkB_at (L : List Ft) (t : Int) : tkB L (atI L t) = decide (0 ≤ atI L t) := by
  have := atI_lt L t
  unfold tkB
  by_cases h : 0 ≤ atI L t <;> simp [h]
  omega

set_option maxRecDepth 100000 in
set_option maxHeartbeats 8000000 in
theorem fruns_walk (m0 m1 : Int) (ao : Option Addr) (b off n cap : Nat) (E : Nat → Int × Bool × Int) (w : World) (hn : n ≤ 100) (hao : 0 < n → ao = some ⟨b, off, none⟩ ∧ b < w.heap.size)
    (hE : ∀ i, i < n → w.cell? ⟨b, off + i * 3, none⟩ = some (.int .u8 (E i).1) ∧ w.cell? ⟨b, off + i * 3 + 1, none⟩ = some (.bool (E i).2.1) ∧ w.cell? ⟨b, off + i * 3 + 2, none⟩ = some (.int .i64 (E i).2.2))
    (hW : ∀ i, i < n → 0 ≤ (E i).1 ∧ (litN (E i).2.2).wf = true) :
    Calls Try.prog 3 #[.agg #[.int .i64 m0, .int .i64 m1], .slice ao n cap] w fun e w' => e = .returned (.bool true) ∧ Turned [] w w' := by
  have HE := Lib.hid hE
  have HAO := Lib.hid hao
  have HWf := Lib.hid hW
  clear hE hao hW
  obtain ⟨Wb, hWb⟩ : ∃ Wb, w.alloc (.cells #[.int .i64 m0, .int .i64 m1] 22) = Wb := ⟨_, rfl⟩
  have kb : Wb.heap[w.heap.size]? = some (.cells #[.int .i64 m0, .int .i64 m1] 22 (0, 0)) := hWb ▸ heap_alloc_new w _
  have KB := Lib.hid kb
  have TB := Lib.hid (show Turned [] w Wb from hWb ▸ (Turned.refl [] w).alloc _)
  have AW := Lib.hid (awake5 Wb)
  clear kb
  go_enter Try.func3, Try.ntmps3
  go_wp2_with fail
  (try rw [hWb])
  clear hWb
  refine AW.out.mono ?_
  rintro e w0 ⟨rfl, t0⟩
  have k0 := t0.same KB.out (by simp)
  have T0 := Lib.hid (TB.out.j t0)
  have K0 := Lib.hid (show w0.drew.heap[w.heap.size]? = _ from k0)
  obtain ⟨c0, c1, _⟩ := cells2 K0.out
  clear t0 k0 AW KB TB
  go_wp2_with fail
  go_region_held3 (fun V => V.cell? ⟨w.heap.size, 0, none⟩ = some (.int .i64 m0) ∧ V.cell? ⟨w.heap.size, 1, none⟩ = some (.int .i64 m1))
    (first | exact ⟨g0, g1⟩ | exact ⟨f0, f1⟩ | exact ⟨c0, c1⟩ | exact ⟨(cells2 ((Below.heap_alloc _ _ _ (lt_of_block K2.out)).trans K2.out)).1, (cells2 ((Below.heap_alloc _ _ _ (lt_of_block K2.out)).trans K2.out)).2.1⟩)
    (first
      | (go_at_call 7
         first
           | (with_reducible refine (qnew m0 _).mono ?_
              rintro e V1 ⟨a0, X0, rfl, p1, t1, n1⟩
              have K1 := Lib.hid (t1.same K0.out (by simp))
              obtain ⟨f0, f1, _⟩ := cells2 K1.out
              have P0 := Lib.hid (And.intro p1 (And.intro t1 n1))
              clear p1 t1 n1)
           | (with_reducible refine (qnew m1 _).mono ?_
              rintro e V2 ⟨a1, X1, rfl, p1, t1, n1⟩
              have K2 := Lib.hid (t1.same K1.out (by simp))
              obtain ⟨g0, g1, _⟩ := cells2 K2.out
              have P1 := Lib.hid (And.intro p1 (And.intro t1 n1))
              clear p1 t1 n1)))
  obtain ⟨mm0, hmm0⟩ : ∃ q, min (max m0 0) 4096 = q := ⟨_, rfl⟩
  obtain ⟨mm1, hmm1⟩ : ∃ q, min (max m1 0) 4096 = q := ⟨_, rfl⟩
  obtain ⟨W1, hW1⟩ : ∃ W1, V2.alloc (.cells #[ptr a0, ptr a1] tPq) = W1 := ⟨_, rfl⟩
  obtain ⟨Q, hQ⟩ : ∃ Q, V2.heap.size = Q := ⟨_, rfl⟩
  -- the program's queues
  have G1 : QI W1 a0 X0 mm0 0 [] ∧ QI W1 a1 X1 mm1 0 [] ∧ (∀ k ∈ X0, k ∉ X1) ∧ (∀ k ∈ X0, w.heap.size ≤ k ∧ k < Q) ∧ (∀ k ∈ X1, w.heap.size ≤ k ∧ k < Q) ∧ W1.heap[Q]? = some (.cells #[ptr a0, ptr a1] tPq (0, 0)) ∧ Turned [] w W1 ∧ W1.heap.size = Q + 1 ∧ w.heap.size < Q := by
    obtain ⟨p0, t1, n1⟩ := P0.out
    obtain ⟨p1, t2, n2⟩ := P1.out
    rw [hmm0] at p0
    rw [hmm1] at p1
    have s0 := T0.out.size
    have s1 := t1.size
    have s2 := t2.size
    have t3 : Turned [] V2 W1 := hW1 ▸ (Turned.refl [] V2).alloc _
    have lb := lt_of_block K2.out
    refine ⟨p0.keep0 (t2.j t3), p1.keep0 t3, fun k hk hk' => ?_, fun k hk => ⟨?_, ?_⟩, fun k hk => ⟨?_, ?_⟩, ?_, ((T0.out.drew.j t1).j t2).j t3, ?_, by omega⟩
    · have := p0.lt k hk
      have := n2 k hk'
      omega
    · have := n1 k hk
      simp at this
      omega
    · have := p0.lt k hk
      omega
    · have := n2 k hk
      have h1 : w0.drew.heap.size = w0.heap.size := rfl
      omega
    · have := p1.lt k hk
      omega
    · rw [← hW1, ← hQ]
      exact heap_alloc_new V2 _
    · rw [← hW1, ← hQ]
      simp
  have HG := Lib.hid G1
  have K3 := Lib.hid (show W1.drew.heap[w.heap.size]? = some (.cells #[.int .i64 m0, .int .i64 m1] 22 (0, 0)) by
    show W1.heap[w.heap.size]? = _
    rw [← hW1]
    exact (Below.heap_alloc _ _ _ (lt_of_block K2.out)).trans K2.out)
  obtain ⟨e0, e1, _⟩ := cells2 K3.out
  have R0 := Lib.hid (rnew5_any m0)
  have R1 := Lib.hid (rnew5_any m1)
  rw [hmm0] at R0
  rw [hmm1] at R1
  clear P0 P1 G1 c0 c1 f0 f1 g0 g1 K0 K1 K2 T0 hmm0 hmm1
  go_wp2_with fail
  simp only [hW1, hQ]
  clear hW1 hQ
  go_region_held3 (fun V => V.cell? ⟨w.heap.size, 0, none⟩ = some (.int .i64 m0) ∧ V.cell? ⟨w.heap.size, 1, none⟩ = some (.int .i64 m1))
    (first | exact ⟨g0, g1⟩ | exact ⟨f0, f1⟩ | exact ⟨e0, e1⟩ | exact ⟨(cells2 ((Below.heap_alloc _ _ _ (lt_of_block K5.out)).trans K5.out)).1, (cells2 ((Below.heap_alloc _ _ _ (lt_of_block K5.out)).trans K5.out)).2.1⟩)
    (first
      | (go_at_call 8
         first
           | (with_reducible refine (R0.out _).mono ?_
              rintro e V4 ⟨rfl, p1, t1⟩
              have K4 := Lib.hid (t1.same K3.out (by simp))
              obtain ⟨f0, f1, _⟩ := cells2 K4.out
              have P0 := Lib.hid (And.intro p1 t1)
              clear p1 t1)
           | (with_reducible refine (R1.out _).mono ?_
              rintro e V5 ⟨rfl, p1, t1⟩
              have K5 := Lib.hid (t1.same K4.out (by simp))
              obtain ⟨g0, g1, _⟩ := cells2 K5.out
              have P1 := Lib.hid (And.intro p1 t1)
              clear p1 t1)))
  obtain ⟨W6, hW6⟩ : ∃ W6, V5.alloc (.cells #[ptr W1.heap.size, ptr V4.heap.size] tPr) = W6 := ⟨_, rfl⟩
  obtain ⟨R, hR⟩ : ∃ R, V5.heap.size = R := ⟨_, rfl⟩
  obtain ⟨d0, hd0⟩ : ∃ d0, W1.heap.size = d0 := ⟨_, rfl⟩
  obtain ⟨d1, hd1⟩ : ∃ d1, V4.heap.size = d1 := ⟨_, rfl⟩
  have D0 : Duo w W6 Q R (two 0 a0 a1) (two 0 d0 d1) (two 0 mm0 mm1) (two 0 X0 X1) (two 0 [d0] [d1]) (fun _ => 0) (fun _ => []) (fun _ => 0) (fun _ => []) := by
    obtain ⟨g1, g2, g3, g4, g5, g6, g7, g8, g9⟩ := HG.out
    obtain ⟨p0, t4⟩ := P0.out
    obtain ⟨p1, t5⟩ := P1.out
    have t6 : Turned [] V5 W6 := hW6 ▸ (Turned.refl [] V5).alloc _
    have t14 : Turned [] W1 V4 := (Turned.refl [] W1).drew.j t4
    have t16 : Turned [] W1 W6 := (t14.j t5).j t6
    have z4 : d0 < V4.heap.size := by
      have h1 := p0.lt d0 (by rw [← hd0]; exact List.mem_singleton.2 rfl)
      exact h1
    have z5 : d1 < V5.heap.size := by
      have h1 := p1.lt d1 (by rw [← hd1]; exact List.mem_singleton.2 rfl)
      exact h1
    have p0' : R5 W6 d0 [d0] mm0 0 [] := by
      rw [← hd0]
      exact LAt.keep p0 (t5.j t6) (by simp)
    have p1' : R5 W6 d1 [d1] mm1 0 [] := by
      rw [← hd1]
      exact LAt.keep p1 t6 (by simp)
    have s5 := t5.size
    refine ⟨?_, ?_, ?_, ?_, ?_, ?_, ?_, t16.same g6 (by simp), ?_, g7.j t16⟩
    · intro i hi
      match i, hi with
      | 0, _ => exact g1.keep0 t16
      | 1, _ => exact g2.keep0 t16
    · intro i hi
      match i, hi with
      | 0, _ => exact p0'
      | 1, _ => exact p1'
    · intro i j hi hj hne k hk hk'
      match i, j, hi, hj with
      | 0, 0, _, _ => exact hne rfl
      | 0, 1, _, _ => exact g3 k hk hk'
      | 1, 0, _, _ => exact g3 k hk' hk
      | 1, 1, _, _ => exact hne rfl
    · intro i j hi hj hne k hk hk'
      match i, j, hi, hj with
      | 0, 0, _, _ => exact hne rfl
      | 0, 1, _, _ =>
        have h1 : k = d0 := List.mem_singleton.1 hk
        have h2 : k = d1 := List.mem_singleton.1 hk'
        omega
      | 1, 0, _, _ =>
        have h1 : k = d1 := List.mem_singleton.1 hk
        have h2 : k = d0 := List.mem_singleton.1 hk'
        omega
      | 1, 1, _, _ => exact hne rfl
    · have hX : ∀ i, i < 2 → ∀ k ∈ two 0 X0 X1 i, k < Q := fun i hi k hk => by
        match i, hi with
        | 0, _ => exact (g4 k hk).2
        | 1, _ => exact (g5 k hk).2
      have hY : ∀ j, j < 2 → ∀ k ∈ two 0 [d0] [d1] j, Q < k := fun j hj k hk => by
        match j, hj with
        | 0, _ =>
          have h1 : k = d0 := List.mem_singleton.1 hk
          omega
        | 1, _ =>
          have h1 : k = d1 := List.mem_singleton.1 hk
          omega
      intro i j hi hj k hk hk'
      have := hX i hi k hk
      have := hY j hj k hk'
      omega
    · intro i hi k hk
      match i, hi with
      | 0, _ =>
        have := g4 k hk
        exact ⟨by omega, by omega, by omega⟩
      | 1, _ =>
        have := g5 k hk
        exact ⟨by omega, by omega, by omega⟩
    · intro i hi k hk
      match i, hi with
      | 0, _ =>
        have h1 : k = d0 := List.mem_singleton.1 hk
        exact ⟨by omega, by omega, by omega⟩
      | 1, _ =>
        have h1 : k = d1 := List.mem_singleton.1 hk
        exact ⟨by omega, by omega, by omega⟩
    · rw [← hW6, ← hR, ← hd0, ← hd1]
      exact heap_alloc_new V5 _
  have HD0 := Lib.hid D0
  obtain ⟨a, ha⟩ : ∃ a, two 0 a0 a1 = a := ⟨_, rfl⟩
  obtain ⟨d, hd⟩ : ∃ d, two 0 d0 d1 = d := ⟨_, rfl⟩
  obtain ⟨m, hm⟩ : ∃ m, two 0 mm0 mm1 = m := ⟨_, rfl⟩
  rw [ha, hd, hm] at HD0
  simp only [hW6]
  rw [hR]
  clear D0 hW6 hR hd0 hd1 HG P0 P1 K3 K4 K5 R0 R1 e0 e1 f0 f1 g0 g1 ha hd hm
  go_wp2_with fail
  go_loopw [47] (fun i wr => ∃ k : Nat, k ≤ n ∧ i = .int .i64 k ∧ ∃ X Y l L, Hid (Duo w wr Q R a d m X Y l L l L) ∧ Hid (Fit5 k l L)) (fun i _ => n - (intOf i).toNat)
  case atStart => exact ⟨0, Nat.zero_le _, rfl, _, _, _, _, HD0, Lib.hid ⟨fun i _ => ⟨Int.le_refl _, by simp⟩, by simp⟩⟩
  case round =>
    obtain ⟨k, hk, rfl, X, Y, l, L, HD, HF⟩ := hrel
    by_cases hlt : k < n
    · obtain ⟨rfl, hb⟩ := HAO.out (by omega)
      have hcell := HE.out k hlt
      have hwf := HWf.out k hlt
      have hbb := HD.out.t.below (B := w.heap.size) (by simp) (Nat.le_refl _)
      rw [← hbb.cell (p := ⟨b, off + k * 3, none⟩) hb, ← hbb.cell (p := ⟨b, off + k * 3 + 1, none⟩) hb, ← hbb.cell (p := ⟨b, off + k * 3 + 2, none⟩) hb] at hcell
      obtain ⟨z0, z1, z2⟩ := hcell
      obtain ⟨⟨dk, d2, dv⟩, hdd⟩ : ∃ z, E k = z := ⟨_, rfl⟩
      simp only [hdd] at z0 z1 z2 hwf
      clear hdd hbb
      obtain ⟨W, hW⟩ : ∃ W, wr.alloc (.cells #[.int .u8 dk, .bool d2, .int .i64 dv] tDd) = W := ⟨_, rfl⟩
      have td : Turned [] wr W := hW ▸ (Turned.refl [] wr).alloc _
      have hdk : W.heap[wr.heap.size]? = some (.cells #[.int .u8 dk, .bool d2, .int .i64 dv] tDd (0, 0)) := hW ▸ heap_alloc_new wr _
      have H1 := Lib.hid (HD.out.later td)
      have HDK := Lib.hid hdk
      have HWF := Lib.hid hwf
      have HNZ : Hid (∀ i, i < 2 → wr.heap.size ∉ X i ∧ wr.heap.size ∉ Y i) := Lib.hid (fun i hi => ⟨fun hx => by have := (HD.out.q i hi).lt _ hx; omega, fun hx => by have := LAt.lt (HD.out.r i hi) _ hx; omega⟩)
      have l1 : (k : Int) < n := by omega
      obtain ⟨y0, y1, y2, _⟩ := cells3a hdk
      clear td hdk hwf HD0 HD
      go_upto_if 52 with (fail)
      obtain ⟨i, hi⟩ : ∃ i : Nat, (if d2 = true then 1 else 0) = i := ⟨_, rfl⟩
      go_cut [9] from 48 to 259 (fun s9 wx => s9 = .int .i64 (i : Nat) ∧ wx = W)
      case first =>
        cases d2 with
        | true =>
          have hi' : i = 1 := by simpa using hi.symm
          subst hi'
          go_wp2_with fail
          go_meet
          exact ⟨rfl, rfl⟩
        | false =>
          have hi' : i = 0 := by simpa using hi.symm
          subst hi'
          go_wp2_with fail
          go_meet
          exact ⟨rfl, rfl⟩
      case rest =>
        obtain ⟨rfl, rfl⟩ := hcut
        have hi2 : i < 2 := by
          rw [← hi]
          split <;> omega
        have i0 : (0 : Int) ≤ i := by omega
        have i1 : (i : Int) < 2 := by omega
        clear hi z0 z1 z2
        go_upto_block 2 with (fail)
        go_cut [10] from 48 to 259 (fun s10 wx => s10 = .bool true ∧ ∃ X Y l L, Hid (Duo w wx Q R a d m X Y l L l L) ∧ Hid (Fit5 (k + 1) l L))
        case first =>
          by_cases q0 : (dk.tmod 5 == 0) = true
          · as_aux_lemma =>
              have hl5 : l i ≤ 100000 := by
                have := (HF.out.1 i hi2).2
                omega
              have hl0 : 0 ≤ l i := (HF.out.1 i hi2).1
              have D1 := Lib.hid (H1.out.later (Turned.refl _ _).drew)
              have K1 := Lib.hid (show wc.drew.heap[wr.heap.size]? = _ from HDK.out)
              obtain ⟨p0, _⟩ := D1.out.ptrs hi2
              obtain ⟨_, _, p1, _⟩ := cells3a K1.out
              have HP := Lib.hid (qpush dv (D1.out.q i hi2) hl5)
              go_wp2_with fail
              go_region_held3 (fun V => V.cell? ⟨Q, i, none⟩ = some (ptr (a i)) ∧ V.cell? ⟨wr.heap.size, 2, none⟩ = some (.int .i64 dv))
                (first | exact ⟨f0, f1⟩ | exact ⟨p0, p1⟩)
                (first
                  | (go_at_call 9
                     first
                       | (with_reducible refine HP.out.mono ?_
                          rintro e V1 ⟨rfl, X1, r1, t1, n1⟩
                          have D2 := Lib.hid (D1.out.stepQ hi2 r1 t1 n1)
                          have K2 := Lib.hid (t1.same K1.out (HNZ.out i hi2).1)
                          obtain ⟨f0, _⟩ := D2.out.ptrs hi2
                          obtain ⟨_, _, f1, _⟩ := cells3a K2.out
                          clear r1 t1 n1)))
              all_goals
                have D3 := Lib.hid (D2.out.later (Turned.refl _ _).drew)
                have K3 := Lib.hid (show V1.drew.heap[wr.heap.size]? = _ from K2.out)
                obtain ⟨_, g0⟩ := D3.out.ptrs hi2
                obtain ⟨_, _, g1, _⟩ := cells3a K3.out
                have HR := Lib.hid (rpush5_any (D3.out.r i hi2) dv (by have := (D1.out.q i hi2).room; omega) hl0 (by omega))
                clear f0 f1 p0 p1 HP
                go_wp2_with fail
                go_region_held3 (fun V => V.cell? ⟨R, i, none⟩ = some (ptr (d i)) ∧ V.cell? ⟨wr.heap.size, 2, none⟩ = some (.int .i64 dv))
                  (first | exact ⟨f0, f1⟩ | exact ⟨g0, g1⟩)
                  (first
                    | (go_at_call 10
                       first
                         | (with_reducible refine HR.out.mono ?_
                            rintro e V2 ⟨rfl, Y1, r1, t1, n1⟩
                            have D4 := Lib.hid (D3.out.stepR hi2 r1 t1 n1)
                            have K4 := Lib.hid (t1.same K3.out (HNZ.out i hi2).2)
                            obtain ⟨_, f0⟩ := D4.out.ptrs hi2
                            obtain ⟨_, _, f1, _⟩ := cells3a K4.out
                            clear r1 t1 n1)))
                all_goals
                  go_wp2
                  go_meet
                  have b1 := psN_le (m i) (l i) (L i)
                  exact ⟨by simp, _, _, _, _, D4, Lib.hid (fit_any HF.out hi2 (by omega) (by omega) (psL_le _ _ _ _))⟩
          · have q0' : (dk.tmod 5 == 0) = false := by simpa using q0
            clear q0
            by_cases q1 : (dk.tmod 5 == 1) = true
            · as_aux_lemma =>
                obtain ⟨p0, _⟩ := H1.out.ptrs hi2
                have HP := Lib.hid (qpop (H1.out.q i hi2))
                go_wp2_with fail
                with_reducible refine HP.out.mono ?_
                rintro e V1 ⟨rfl, X1, r1, t1, n1⟩
                have D2 := Lib.hid (H1.out.stepQ hi2 r1 t1 n1)
                obtain ⟨_, g0⟩ := D2.out.ptrs hi2
                have HR := Lib.hid (rtake5_any (D2.out.r i hi2) 0 (by have := (H1.out.q i hi2).room; omega))
                clear r1 t1 n1 p0 HP
                go_wp2_with fail
                with_reducible refine HR.out.mono ?_
                rintro e V2 ⟨rfl, Y1, r1, t1, n1⟩
                have D4 := Lib.hid (D2.out.stepR hi2 r1 t1 n1)
                clear r1 t1 n1 g0 HR
                go_wp2
                all_goals
                  go_meet
                  have b1 := HF.out.1 i hi2
                  exact ⟨by simp, _, _, _, _, D4, Lib.hid (fit_any HF.out hi2 (by omega) (by omega) (by have := tkL_le (L i) 0; omega))⟩
            · have q1' : (dk.tmod 5 == 1) = false := by simpa using q1
              clear q1
              by_cases q2 : (dk.tmod 5 == 2) = true
              · as_aux_lemma =>
                  have D1 := Lib.hid (H1.out.later (Turned.refl _ _).drew)
                  have K1 := Lib.hid (show wc.drew.heap[wr.heap.size]? = _ from HDK.out)
                  obtain ⟨p0, _⟩ := D1.out.ptrs hi2
                  obtain ⟨_, _, p1, _⟩ := cells3a K1.out
                  have HP := Lib.hid (qremove dv HWF.out.2 (D1.out.q i hi2))
                  go_wp2_with fail
                  go_region_held3 (fun V => V.cell? ⟨Q, i, none⟩ = some (ptr (a i)) ∧ V.cell? ⟨wr.heap.size, 2, none⟩ = some (.int .i64 dv))
                    (first | exact ⟨f0, f1⟩ | exact ⟨p0, p1⟩)
                    (first
                      | (go_at_call 13
                         first
                           | (with_reducible refine HP.out.mono ?_
                              rintro e V1 ⟨rfl, X1, r1, t1, n1⟩
                              have D2 := Lib.hid (D1.out.stepQ hi2 r1 t1 n1)
                              have K2 := Lib.hid (t1.same K1.out (HNZ.out i hi2).1)
                              obtain ⟨f0, _⟩ := D2.out.ptrs hi2
                              obtain ⟨_, _, f1, _⟩ := cells3a K2.out
                              clear r1 t1 n1)))
                  all_goals
                    have D3 := Lib.hid (D2.out.later (Turned.refl _ _).drew)
                    have K3 := Lib.hid (show V1.drew.heap[wr.heap.size]? = _ from K2.out)
                    obtain ⟨_, g0⟩ := D3.out.ptrs hi2
                    obtain ⟨_, _, g1, _⟩ := cells3a K3.out
                    have HA := Lib.hid (rat_any (D3.out.r i hi2) dv)
                    have HR := Lib.hid (rtake5_any (D3.out.r i hi2) (atI (L i) dv) (by have := (D1.out.q i hi2).room; omega))
                    clear f0 f1 p0 p1 HP
                    go_wp2_with fail
                    go_region_held3 (fun V => V.cell? ⟨R, i, none⟩ = some (ptr (d i)) ∧ V.cell? ⟨wr.heap.size, 2, none⟩ = some (.int .i64 dv))
                      (first | exact ⟨f0, f1⟩ | exact ⟨g0, g1⟩)
                      (first
                        | (go_at_call 14
                           first
                             | (with_reducible refine HA.out.mono ?_
                                rintro e V2 ⟨rfl, rfl⟩))
                        | (go_at_call 12
                           first
                             | (with_reducible refine HR.out.mono ?_
                                rintro e V2 ⟨rfl, Y1, r1, t1, n1⟩
                                have D4 := Lib.hid (D3.out.stepR hi2 r1 t1 n1)
                                have K4 := Lib.hid (t1.same K3.out (HNZ.out i hi2).2)
                                obtain ⟨_, f0⟩ := D4.out.ptrs hi2
                                obtain ⟨_, _, f1, _⟩ := cells3a K4.out
                                clear r1 t1 n1)))
                    all_goals
                      go_wp2
                      all_goals
                        go_meet
                        have b1 := HF.out.1 i hi2
                        exact ⟨by simp, _, _, _, _, D4, Lib.hid (fit_any HF.out hi2 (by omega) (by omega) (by have := tkL_le (L i) (atI (L i) dv); omega))⟩
              · have q2' : (dk.tmod 5 == 2) = false := by simpa using q2
                clear q2
                by_cases q3 : (dk.tmod 5 == 3) = true
                · as_aux_lemma =>
                    have D1 := Lib.hid (H1.out.later (Turned.refl _ _).drew)
                    have K1 := Lib.hid (show wc.drew.heap[wr.heap.size]? = _ from HDK.out)
                    obtain ⟨p0, _⟩ := D1.out.ptrs hi2
                    obtain ⟨_, _, p1, _⟩ := cells3a K1.out
                    have hP := qget dv HWF.out.2 (D1.out.q i hi2)
                    have hb := tkB_at (L i) dv
                    have hlt := atI_lt (L i) dv
                    by_cases hz : 0 ≤ atI (L i) dv
                    · obtain ⟨j, hj⟩ := Int.eq_ofNat_of_zero_le hz
                      have e1 : tkB (L i) (atI (L i) dv) = true := by rw [hb]; simpa using hz
                      have e2 : tkV (L i) (atI (L i) dv) = ((L i).getD j (0, 0)).2 := by
                        rw [tkV, if_pos e1, hj]
                        simp
                      obtain ⟨y, hy⟩ : ∃ y, ((L i).getD j (0, 0)).2 = y := ⟨_, rfl⟩
                      rw [e1, e2, hy] at hP
                      have HP := Lib.hid hP
                      have HJ := Lib.hid hj
                      have HY := Lib.hid hy
                      rw [hj] at hlt
                      have j0 : (0 : Int) ≤ (j : Int) := by omega
                      have j1 : (j : Int) < (L i).length := by omega
                      clear hP hb hz e1 e2 hj hy
                      go_wp2_with fail
                      go_region_held3 (fun V => V.cell? ⟨Q, i, none⟩ = some (ptr (a i)) ∧ V.cell? ⟨wr.heap.size, 2, none⟩ = some (.int .i64 dv))
                        (first | exact ⟨f0, f1⟩ | exact ⟨p0, p1⟩)
                        (first
                          | (go_at_call 15
                             first
                               | (with_reducible refine HP.out.mono ?_
                                  rintro e V1 ⟨rfl, t1⟩
                                  have D2 := Lib.hid (D1.out.later t1)
                                  have K2 := Lib.hid (t1.same K1.out (by simp))
                                  obtain ⟨f0, _⟩ := D2.out.ptrs hi2
                                  obtain ⟨_, _, f1, _⟩ := cells3a K2.out
                                  clear t1)))
                      all_goals
                        obtain ⟨_, g0⟩ := D2.out.ptrs hi2
                        have HA := Lib.hid (fun q : Nat => (rat_any ((D2.out.later ((Turned.refl [] V1).drewN q)).r i hi2) dv).mono (fun e w' h => (show e = .returned (.int .i64 (j : Int)) ∧ ∃ n, w' = (V1.drewN q).drewN n from ⟨by rw [← HJ.out]; exact h.1, 0, h.2.symm⟩)))
                        obtain ⟨ra, rcap, _, _, c2, hrr⟩ := (D2.out.r i hi2).rows
                        obtain ⟨g, rfl, r0, r1⟩ := hrr j (by omega)
                        rw [HY.out] at r1
                        clear f0 p0 p1 HP hrr r0 hlt
                        go_wp2
                        go_quiet ((go_at_call 14; exact Calls.quiet_of (HA.out _)))
                        go_wp2
                        all_goals
                          go_meet
                          exact ⟨by simp, _, _, _, _, Lib.hid (D2.out.later ((Turned.refl _ _).drewN _)), Lib.hid (fit_later HF.out)⟩
                    · obtain ⟨p, hp⟩ : ∃ p, atI (L i) dv = p := ⟨_, rfl⟩
                      have e1 : tkB (L i) (atI (L i) dv) = false := by rw [hb]; simpa using hz
                      have e2 : tkV (L i) (atI (L i) dv) = 0 := by simp [tkV, e1]
                      rw [e1, e2] at hP
                      have HP := Lib.hid hP
                      have HJ := Lib.hid hp
                      rw [hp] at hz
                      have z0 : p < 0 := by omega
                      have z1 : decide ((0 : Int) ≤ p) = false := by simpa using hz
                      clear hP hb e1 e2 hp hlt hz
                      go_wp2_with fail
                      go_region_held3 (fun V => V.cell? ⟨Q, i, none⟩ = some (ptr (a i)) ∧ V.cell? ⟨wr.heap.size, 2, none⟩ = some (.int .i64 dv))
                        (first | exact ⟨f0, f1⟩ | exact ⟨p0, p1⟩)
                        (first
                          | (go_at_call 15
                             first
                               | (with_reducible refine HP.out.mono ?_
                                  rintro e V1 ⟨rfl, t1⟩
                                  have D2 := Lib.hid (D1.out.later t1)
                                  have K2 := Lib.hid (t1.same K1.out (by simp))
                                  obtain ⟨f0, _⟩ := D2.out.ptrs hi2
                                  obtain ⟨_, _, f1, _⟩ := cells3a K2.out
                                  clear t1)))
                      all_goals
                        obtain ⟨_, g0⟩ := D2.out.ptrs hi2
                        have HA := Lib.hid (fun q : Nat => (rat_any ((D2.out.later ((Turned.refl [] V1).drewN q)).r i hi2) dv).mono (fun e w' h => (show e = .returned (.int .i64 p) ∧ ∃ n, w' = (V1.drewN q).drewN n from ⟨by rw [← HJ.out]; exact h.1, 0, h.2.symm⟩)))
                        clear f0 p0 p1 HP
                        go_wp2
                        go_quiet ((go_at_call 14; exact Calls.quiet_of (HA.out _)))
                        go_wp2
                        all_goals
                          go_meet
                          exact ⟨by simp, _, _, _, _, Lib.hid (D2.out.later ((Turned.refl _ _).drewN _)), Lib.hid (fit_later HF.out)⟩
                · have q3' : (dk.tmod 5 == 3) = false := by simpa using q3
                  clear q3
                  by_cases q4 : (dk.tmod 5 == 4) = true
                  · as_aux_lemma =>
                      obtain ⟨j, hj⟩ : ∃ j : Nat, 1 - i = j := ⟨_, rfl⟩
                      have hj2 : j < 2 := by omega
                      have hij : i ≠ j := by omega
                      have hjw : (1 : Int) - (i : Int) = (j : Int) := by omega
                      have hjw3 : IntKind.i64.wrap (j : Int) = (j : Int) := by
                        rw [IntKind.wrap_i64]
                        omega
                      have j0 : (0 : Int) ≤ j := by omega
                      have j1 : (j : Int) < 2 := by omega
                      clear hj
                      have D1 := Lib.hid (H1.out.later (Turned.refl _ _).drew)
                      have K1 := Lib.hid (show wc.drew.heap[wr.heap.size]? = _ from HDK.out)
                      obtain ⟨p0, p1⟩ := D1.out.ptrs (i := i) hi2
                      obtain ⟨p2, p3⟩ := D1.out.ptrs (i := j) hj2
                      obtain ⟨_, _, p4, _⟩ := cells3a K1.out
                      have bj := HF.out.1 j hj2
                      have bi := D1.out.q i hi2 |>.room
                      have bjr := D1.out.q j hj2 |>.room
                      have HP := Lib.hid (qpour_any dv (D1.out.q i hi2) (D1.out.q j hj2) (D1.out.xx i j hi2 hj2 hij) (by omega) bj.1 (by omega))
                      have HK1 := Lib.hid (show pourK dv (L i) (L j) (m j) ≤ (L i).length by unfold pourK; omega)
                      obtain ⟨K, hK⟩ : ∃ K, pourK dv (L i) (L j) (m j) = K := ⟨_, rfl⟩
                      have HKE := Lib.hid hK
                      rw [hK] at HP HK1
                      clear hK
                      go_wp2_with fail
                      go_region_held3 (fun V => V.cell? ⟨Q, i, none⟩ = some (ptr (a i)) ∧ V.cell? ⟨Q, j, none⟩ = some (ptr (a j)) ∧ V.cell? ⟨R, i, none⟩ = some (ptr (d i)) ∧ V.cell? ⟨R, j, none⟩ = some (ptr (d j)) ∧ V.cell? ⟨wr.heap.size, 2, none⟩ = some (.int .i64 dv))
                        (first | exact ⟨g0, g2, g1, g3, g4⟩ | exact ⟨f0, f2, f1, f3, f4⟩ | exact ⟨p0, p2, p1, p3, p4⟩)
                        (first
                          | (go_at_call 16
                             first
                               | (with_reducible refine HP.out.mono ?_
                                  rintro e V1 ⟨rfl, X1, X2, r1, r2, r3, t1, n1, n2⟩
                                  have D2 := Lib.hid (D1.out.pourQ hi2 hj2 hij r1 r2 r3 t1 n1 n2)
                                  have K2 := Lib.hid (t1.same K1.out (fun hx => by
                                    rcases List.mem_append.1 hx with h | h
                                    · exact (HNZ.out i hi2).1 h
                                    · exact (HNZ.out j hj2).1 h))
                                  obtain ⟨f0, f1⟩ := D2.out.ptrs (i := i) hi2
                                  obtain ⟨f2, f3⟩ := D2.out.ptrs (i := j) hj2
                                  obtain ⟨_, _, f4, _⟩ := cells3a K2.out
                                  have HR := Lib.hid (rpour_any (D2.out.r i hi2) (D2.out.r j hj2) (D2.out.yy i j hi2 hj2 hij) dv (by omega) (by omega) bj.1 (by omega))
                                  rw [HKE.out] at HR
                                  clear r1 r2 r3 t1 n1 n2)
                               | (with_reducible refine (qpour_self _ _ _).mono ?_
                                  rintro e V3 ⟨rfl, rfl⟩))
                          | (go_at_call 17
                             first
                               | (with_reducible refine HR.out.mono ?_
                                  rintro e V2 ⟨rfl, Y1, Y2, r1, r2, r3, t1, n1, n2⟩
                                  have D4 := Lib.hid (D2.out.pourR hi2 hj2 hij r1 r2 r3 t1 n1 n2)
                                  have K4 := Lib.hid (t1.same K2.out (fun hx => by
                                    rcases List.mem_append.1 hx with h | h
                                    · exact (HNZ.out i hi2).2 h
                                    · exact (HNZ.out j hj2).2 h))
                                  obtain ⟨g0, g1⟩ := D4.out.ptrs (i := i) hi2
                                  obtain ⟨g2, g3⟩ := D4.out.ptrs (i := j) hj2
                                  obtain ⟨_, _, g4, _⟩ := cells3a K4.out
                                  clear r1 r2 r3 t1 n1 n2)))
                      all_goals
                        go_wp2
                        all_goals
                          go_meet
                          exact ⟨by simp, _, _, _, _, D4, Lib.hid (fit_two HF.out (by omega) hi2 hj2 hij HK1.out (by simp) (by rw [pourB_len]))⟩
                  · have q4' : (dk.tmod 5 == 4) = false := by simpa using q4
                    clear q4
                    as_aux_lemma =>
                      go_wp2
                      go_meet
                      exact ⟨rfl, _, _, _, _, H1, Lib.hid (fit_later HF.out)⟩
        case rest => as_aux_lemma =>
          obtain ⟨rfl, X2, Y2, l2, L2, HD2, HF2⟩ := hcut
          have hdr : Turned [] wc wc.drew := (Turned.refl [] wc).drew
          have D1 := Lib.hid (HD2.out.later hdr)
          obtain ⟨p0, p1⟩ := D1.out.ptrs (i := 0) (by omega)
          obtain ⟨p2, p3⟩ := D1.out.ptrs (i := 1) (by omega)
          have HS0 := Lib.hid (fun (V : World) (t : Turned [] wc.drew V) => same_any ((D1.out.later t).q 0 (by omega)) ((D1.out.later t).r 0 (by omega)))
          have HS1 := Lib.hid (fun (V : World) (t : Turned [] wc.drew V) => same_any ((D1.out.later t).q 1 (by omega)) ((D1.out.later t).r 1 (by omega)))
          have T0 := Lib.hid (Turned.refl [] wc.drew)
          go_wp2_with fail
          go_region_held3 (fun V => V.cell? ⟨Q, 0, none⟩ = some (ptr (a 0)) ∧ V.cell? ⟨Q, 1, none⟩ = some (ptr (a 1)) ∧ V.cell? ⟨R, 0, none⟩ = some (ptr (d 0)) ∧ V.cell? ⟨R, 1, none⟩ = some (ptr (d 1)))
            (first | exact ⟨g0, g2, g1, g3⟩ | exact ⟨f0, f2, f1, f3⟩ | exact ⟨p0, p2, p1, p3⟩)
            (first
              | (go_at_call 18
                 first
                   | (with_reducible refine (HS0.out _ T0.out).mono ?_
                      rintro e V1 ⟨rfl, t1⟩
                      have D2 := Lib.hid (D1.out.later t1)
                      obtain ⟨f0, f1⟩ := D2.out.ptrs (i := 0) (by omega)
                      obtain ⟨f2, f3⟩ := D2.out.ptrs (i := 1) (by omega)
                      have T1 := Lib.hid t1
                      clear t1)
                   | (with_reducible refine (HS1.out _ T1.out).mono ?_
                      rintro e V2 ⟨rfl, t1⟩
                      have D4 := Lib.hid (D2.out.later t1)
                      obtain ⟨g0, g1⟩ := D4.out.ptrs (i := 0) (by omega)
                      obtain ⟨g2, g3⟩ := D4.out.ptrs (i := 1) (by omega)
                      clear t1)))
          all_goals
            go_wp2
            go_roundw
            case rel => exact ⟨k + 1, by omega, by go_num, _, _, _, _, D4, HF2⟩
            case measure => simp [intOf]; omega
    · obtain rfl : k = n := by omega
      have HT := Lib.hid HD.out.t
      go_wp2
      go_ret
      exact ⟨rfl, HT.out⟩
end Go.Proofs.Ytnoiifnknkakoaa
