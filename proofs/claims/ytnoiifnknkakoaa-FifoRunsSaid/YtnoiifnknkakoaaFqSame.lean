/-
  same: a queue is held against the document's.
-/
import Derived.Test.YtnoiifnknkakoaaFqAll
import Derived.Test.YtnoiifnknkakoaaFfRef
namespace Go.Proofs.Ytnoiifnknkakoaa
open Go.RowKit Go.Maps Go.Shelf
attribute [local go_sem] Oper.semAt_some

/-- The boxes of same: the document's queue, n, ok. -/
structure SmB (w W : World) (N d : Nat) (k : Nat) : Prop where
  d : W.heap[w.heap.size]? = some (.cells #[.pointer (some ⟨d, 0, none⟩)] 28 (0, 0))
  n : W.heap[w.heap.size + 1]? = some (.cells #[.int .i64 (k : Nat)] 3 (0, 0))
  ok : W.heap[w.heap.size + 2]? = some (.cells #[.bool true] 4 (0, 0))
  t : Turned [] w W
  z : N ≤ W.heap.size
theorem SmB.mild {w W W' : World} {N d k N' : Nat} (h : SmB w W N d k) (m : Mild [] N' W W') (hN : w.heap.size ≤ N') : SmB w W' N d k :=
  ⟨m.cells h.d (by simp), m.cells h.n (by simp), m.cells h.ok (by simp), h.t.mild m hN (by simp), Nat.le_trans h.z m.size⟩
theorem SmB.later {w W W' : World} {N d k : Nat} (h : SmB w W N d k) (t : Turned [] W W') : SmB w W' N d k :=
  ⟨t.same h.d (by simp), t.same h.n (by simp), t.same h.ok (by simp), h.t.trans t (Newer.refl _ _), Nat.le_trans h.z t.size⟩
theorem SmB.set {w W : World} {N d k : Nat} (h : SmB w W N d k) (k' : Nat) : SmB w ((W.setCell ⟨w.heap.size + 2, 0, none⟩ (.bool true)).setCell ⟨w.heap.size + 1, 0, none⟩ (.int .i64 (k' : Nat))) N d k' := by
  have n1 : w.heap.size + 1 ≠ w.heap.size + 2 := by omega
  have n2 : w.heap.size ≠ w.heap.size + 2 := by omega
  have n3 : w.heap.size ≠ w.heap.size + 1 := by omega
  refine ⟨(Below.heap_setCell _ _ _ _ n3).trans ((Below.heap_setCell _ _ _ _ n2).trans h.d), ?_, ?_, (h.t.setCell (.inr (by simp)) _).setCell (.inr (by simp)) _, by simp [World.setCell]; exact h.z⟩
  · rw [heap_setCell_same _ _ _ _ _ _ ((Below.heap_setCell _ _ _ _ n1).trans h.n)]
    rfl
  · refine (Below.heap_setCell _ _ _ _ n1.symm).trans ?_
    rw [heap_setCell_same _ _ _ _ _ _ h.ok]
    rfl

set_option maxRecDepth 100000 in
set_option maxHeartbeats 3200000 in
theorem same_any {w : World} {b d : Nat} {X Y : List Nat} {m l m' l' : Int} {L : List Ft} (hq : QI w b X m l L) (hr : R5 w d Y m' l' L) :
    Calls Try.prog 18 #[.pointer (some ⟨b, 0, none⟩), .pointer (some ⟨d, 0, none⟩)] w fun e w' => e = .returned (.bool true) ∧ Turned [] w w' := by
  have hL : L.length ≤ 4096 := by
    have := hq.room
    omega
  refine callsIn_wide.1 (?_ : CallsIn Fence.wide 20 _ _ _ _ _)
  refine callsIn_of_wp_marks Try.func18 rfl trivial ?_ rfl
  simp only [Try.ntmps18, List.size_toArray, List.length_cons, List.length_nil, Nat.reduceAdd, Nat.reduceSub, Array.replicate_succ, Array.replicate_zero, List.push_toArray, List.append_toArray, List.nil_append, List.cons_append]
  refine wpIn_wide.2 ?_
  have HQ := Lib.hid (fun (W : World) (t : Turned [] w W) => hq.keep0 t)
  have HR := Lib.hid (fun (W : World) (t : Turned [] w W) => (show R5 W d Y m' l' L from LAt.keep hr t (by simp)))
  obtain ⟨W0, hW0⟩ : ∃ W0, ((w.alloc (.cells #[.pointer (some ⟨d, 0, none⟩)] 28)).alloc (.cells #[.int .i64 0] 3)).alloc (.cells #[.bool true] 4) = W0 := ⟨_, rfl⟩
  have B0 : SmB w W0 0 d 0 := by
    have h1 := heap_alloc_new w (.cells #[.pointer (some ⟨d, 0, none⟩)] 28)
    have h2 := heap_alloc_new (w.alloc (.cells #[.pointer (some ⟨d, 0, none⟩)] 28)) (.cells #[.int .i64 0] 3)
    have h3 := heap_alloc_new ((w.alloc (.cells #[.pointer (some ⟨d, 0, none⟩)] 28)).alloc (.cells #[.int .i64 0] 3)) (.cells #[.bool true] 4)
    simp only [World.size_alloc] at h2 h3
    rw [← hW0]
    refine ⟨(Below.heap_alloc _ _ _ (by simp; omega)).trans ((Below.heap_alloc _ _ _ (by simp)).trans h1), (Below.heap_alloc _ _ _ (by simp)).trans h2, h3, (((Turned.refl [] w).alloc _).alloc _).alloc _, Nat.zero_le _⟩
  have HB0 := Lib.hid B0
  have HA := Lib.hid (qall_any (HQ.out W0 B0.t))
  have hsz0 : w.heap.size + 3 ≤ W0.heap.size := lt_of_block B0.ok
  clear hq hr B0
  go_wp2_with fail
  (try rw [hW0])
  clear hW0
  with_reducible refine HA.out.mono ?_
  rintro e W1 ⟨B, rfl, hK, hT⟩
  obtain ⟨Yb, hY, hseq⟩ := all1_seq (n := 19) (by omega) hK (by omega)
  have HB1 : Hid (SmB w W1 W1.heap.size d 0) := Lib.hid (by
    have h := HB0.out.later hT
    exact ⟨h.d, h.n, h.ok, h.t, Nat.le_refl _⟩)
  have HY := Lib.hid hY
  have HSEQ := Lib.hid hseq
  have hw1 : w.heap.size + 3 ≤ W1.heap.size := by have := hT.size; omega
  clear hK hT hY hseq HA HB0
  go_wp2_with fail
  refine (wpIn_wide (n := 20)).1 ?_
  refine range_turns_plain rfl (by omega) (gf := 33) (lb := #[.pointer (some ⟨B, 0, none⟩)]) rfl trivial (enters_of Try.func33 (by kernel_rfl) rfl)
    (X := []) (Y := Yb) (by simp) (fun k hk => (HY.out k hk).2) HSEQ.out (fun _ => rfl) (fun _ _ _ h _ => h) (fun _ _ _ h _ => h)
    (fun pre W => SmB w W W1.heap.size d pre.length) (fun _ _ _ => False) (fun xs A B h mm => h.mild mm (by omega)) (fun _ _ _ _ h _ => h.elim) HB1.out
    ?a1 ?assign ?body ?done ?stop
  case stop =>
    rintro D c xs W _ _ h _
    exact h.elim
  case assign =>
    intro l x W K hK
    gi_wp2
    exact hK
  case body =>
    rintro l pre x W hI hsp
    have hsp' : pre.length < L.length ∧ (pre ++ [x]) = L.take (pre.length + 1) := by
      have h1 := hsp.length_le
      have h2 := List.prefix_iff_eq_take.1 hsp
      simp at h1 h2
      exact ⟨by omega, h2⟩
    obtain ⟨k, hk⟩ : ∃ k, pre.length = k := ⟨_, rfl⟩
    have hLk : L.getD k (0, 0) = x := by
      have h1 := congrArg (fun z => z[k]?) hsp'.2
      simp only [hk] at h1 hsp'
      rw [List.getElem?_append_right (by omega), List.getElem?_take] at h1
      simp [hk] at h1
      rw [List.getD_eq_getElem?_getD, ← h1]
      rfl
    rw [hk] at hI
    have hlt : k < L.length := by omega
    obtain ⟨x1, x2⟩ := x
    obtain ⟨a, cap, c0, c1, c2, hrr⟩ := (HR.out W hI.t).rows
    obtain ⟨g, rfl, r0, r1⟩ := hrr k hlt
    rw [hLk] at r0 r1
    simp only at r0 r1
    have b0 := cell1 hI.d
    have b1 := cell1 hI.n
    have b2 := cell1 hI.ok
    have bf1 := frozen_of_row W (w.heap.size + 1) 0 _ _ hI.n
    have bf2 := frozen_of_row W (w.heap.size + 2) 0 _ _ hI.ok
    have HI := Lib.hid hI
    have i0 : (0 : Int) ≤ k := by omega
    have i1 : (k : Int) < L.length := by omega
    have d1 : decide ((k : Int) < (L.length : Int)) = true := by simpa using hlt
    have d2 : decide (k < L.length) = true := by simpa using hlt
    have HKK := Lib.hid hk
    clear hsp hsp' hLk hI hrr hk
    gi_wp2
    refine wpRound_tail 34 (by kernel_rfl) ?_ (by kernel_rfl) (by kernel_rfl) ?_
    · rintro ⟨_, _, h⟩; exact h
    simp only [List.take_succ_cons, List.take_zero, List.drop_succ_cons, List.drop_zero]
    repeat (go_big_quiet_step (fail))
    refine wpQuiet_nil ?_
    go_wp2
    gi_wp2
    have hh := HI.out.set (k + 1)
    rw [show (((k + 1 : Nat) : Int)) = (k : Int) + 1 by omega] at hh
    have hk2 : KeepsFrom W1.heap.size W ((W.setCell ⟨w.heap.size + 2, 0, none⟩ (.bool true)).setCell ⟨w.heap.size + 1, 0, none⟩ (.int .i64 ((k : Int) + 1))) := ((KeepsOthers.setCell _ _ _).trans (KeepsOthers.setCell _ _ _)).from _
    refine ⟨⟨hk2.size, hk2.same⟩, fun j hj => ?_, ?_⟩
    · have := (HY.out j hj).1
      exact (Below.heap_setCell _ _ _ _ (by simp; omega)).trans (Below.heap_setCell _ _ _ _ (by simp; omega))
    · have hl : (pre ++ [(x1, x2)]).length = k + 1 := by simp [HKK.out]
      show SmB w _ _ d (pre ++ [(x1, x2)]).length
      rw [hl]
      exact hh.later (Turned.refl _ _).drew
  case done =>
    rintro D xs W hD rfl hI hK
    have HI := Lib.hid hI
    have HKD := Lib.hid hK
    obtain ⟨a, cap, c0, c1, c2, _⟩ := (HR.out W hI.t).rows
    have b0 := cell1 hI.d
    have b1 := cell1 hI.n
    have b2 := cell1 hI.ok
    have HL := Lib.hid (fun q : Nat => qlen (HQ.out (W.drewN q) (hI.t.drewN q)))
    clear hI hK
    go_wp2
    go_quiet ((go_at_call 20; exact Calls.quiet_of (HL.out _)))
    go_wp2
    refine ⟨by simp, .inl ⟨_, _, rfl, run_takeDeferred (show (W.drewN nq).heap[D]? = _ from HKD.out), ?_⟩⟩
    exact ⟨_, results_tmp rfl _ _ _, rfl, (HI.out.t.drewN nq).put (by omega) _⟩
end Go.Proofs.Ytnoiifnknkakoaa
