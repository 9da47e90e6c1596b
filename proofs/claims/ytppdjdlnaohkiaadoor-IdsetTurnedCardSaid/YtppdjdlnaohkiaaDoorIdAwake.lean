/-
  awake.
-/
import Derived.Test.YtppdjdlnaohkiaaDoorIdAll
namespace Go.Proofs.YtppdjdlnaohkiaaDoor
open Go.RowKit Go.Maps Go.Shelf
attribute [local go_sem] Oper.semAt_some

theorem Below.turned {w w' : World} (h : Below w.heap.size w w') : Turned [] w w' := ⟨h.os, h.tape, h.output, h.size, fun k hk _ => h.block k hk⟩
abbrev F3 (i : Nat) : Int := [3, 1, 99].getD i 0
theorem of3 : ofN F3 3 = 10 := by decide +kernel
theorem list10 : listN 10 = [1, 3] := by decide +kernel
theorem pre10 {pre : List Int} {x : Int} (h : (pre ++ [x]) <+: listN 10) : (pre = [] ∧ x = 1) ∨ (pre = [1] ∧ x = 3) := by
  rw [list10] at h
  have h1 := h.length_le
  have h2 := List.prefix_iff_eq_take.1 h
  simp only [List.length_append, List.length_cons, List.length_nil] at h1 h2
  match pre, h1, h2 with
  | [], _, h2 => simp at h2; exact .inl ⟨rfl, h2⟩
  | [p], _, h2 => simp at h2; exact .inr ⟨by rw [h2.1], h2.2⟩
  | _ :: _ :: _, h1, _ => simp at h1

/-- What has been told so far. -/
def tens (pre : List Int) : Int := pre.foldl (fun n x => 10 * n + x) 0
structure AwB (w W : World) (b : Nat) (pre : List Int) : Prop where
  n : W.heap[b]? = some (.cells #[.int .i64 (tens pre)] 3 (0, 0))
  t : Turned [] w W
theorem AwB.mild {w W W' : World} {b N : Nat} {pre : List Int} (h : AwB w W b pre) (m : Mild [] N W W') (hN : w.heap.size ≤ N) : AwB w W' b pre :=
  ⟨m.cells h.n (by simp), h.t.mild m hN (by simp)⟩

set_option maxRecDepth 100000 in
set_option maxHeartbeats 3200000 in
theorem awake6 : AwakeSaid := by
  intro w hT
  refine callsIn_wide.1 (?_ : CallsIn Fence.wide 20 _ _ _ _ _)
  refine callsIn_of_wp_marks Tryd.func6 rfl trivial ?_ rfl
  simp only [Tryd.ntmps6, List.size_toArray, List.length_nil, Nat.reduceSub, Array.replicate_succ, Array.replicate_zero, List.push_toArray, List.append_toArray, List.nil_append, List.cons_append]
  refine wpIn_wide.2 ?_
  obtain ⟨W1, hW1⟩ : ∃ W1, w.alloc (.cells #[.int .i64 3, .int .i64 1, .int .i64 99] 3) = W1 := ⟨_, rfl⟩
  have t1 : Turned [] w W1 := hW1 ▸ (Turned.refl [] w).alloc _
  have z1 : W1.heap.size = w.heap.size + 1 := by rw [← hW1]; simp
  have a1 : W1.heap[w.heap.size]? = some (.cells #[.int .i64 3, .int .i64 1, .int .i64 99] 3 (0, 0)) := hW1 ▸ heap_alloc_new w _
  have HO := Lib.hid (of_any (some ⟨w.heap.size, 0, none⟩) w.heap.size 0 3 3 F3 W1 (by decide) (fun _ => ⟨rfl, by omega⟩)
    (fun i hi => by
      match i, hi with
      | 0, _ => simp [World.cell?, a1, F3]
      | 1, _ => simp [World.cell?, a1, F3]
      | 2, _ => simp [World.cell?, a1, F3])
    (fun i hi => by
      match i, hi with
      | 0, _ => exact ⟨by decide, by decide⟩
      | 1, _ => exact ⟨by decide, by decide⟩
      | 2, _ => exact ⟨by decide, by decide⟩))
  rw [of3] at HO
  have HT1 := Lib.hid (hT.turned t1 (by simp))
  have HT := Lib.hid hT
  have HTt := Lib.hid t1
  clear hT t1 a1
  go_wp2_with fail
  (try rw [hW1])
  clear hW1
  with_reducible refine HO.out.mono ?_
  rintro e W2 ⟨rfl, hb2⟩
  have t2 : Turned [] w W2 := HTt.out.trans (Below.turned hb2) (Newer.refl _ _)
  have HT2 := Lib.hid (HT.out.turned t2 (by simp))
  have HTT := Lib.hid t2
  have z2 := hb2.size
  obtain ⟨W3, hW3⟩ : ∃ W3, W2.alloc (.cells #[.int .i64 0] 3) = W3 := ⟨_, rfl⟩
  have HA := Lib.hid (all_any 10 W3)
  rw [show ((10 : Nat) : Int) = 10 from rfl] at HA
  have hlt : 0 < w.heap.size := HT.out.lt
  have HW3 := Lib.hid hW3
  clear hb2 t2 HO HTt hW3
  go_wp2_with fail
  rw [HW3.out]
  have hW3 := HW3.out
  with_reducible refine HA.out.mono ?_
  rintro e W4 ⟨rfl, h4⟩
  have t34 : Turned [] W2 W4 := by rw [h4, ← hW3]; exact ((Turned.refl [] W2).alloc _).alloc _
  have hseq := all1_seq (n := 19) (by omega) (w := W4) (B := W3.heap.size) (s := 10) (by rw [h4]; exact heap_alloc_new W3 _) (by decide) (HT2.out.turned t34 (by simp))
  have hB0 : AwB w W4 W2.heap.size [] := ⟨by
    have h1 := heap_alloc_new W2 (.cells #[.int .i64 0] 3)
    rw [hW3] at h1
    rw [h4]
    exact (Below.heap_alloc _ _ _ (by rw [← hW3]; simp)).trans h1, HTT.out.trans t34 (Newer.refl _ _)⟩
  have HB0 := Lib.hid hB0
  have HSEQ := Lib.hid hseq
  have z4 : w.heap.size ≤ W4.heap.size := hB0.t.size
  have z5 : W2.heap.size < W4.heap.size := lt_of_block hB0.n
  have hw2 : w.heap.size < W2.heap.size := by omega
  clear h4 hW3 t34 hB0 hseq HA
  go_wp2_with fail
  refine (wpIn_wide (n := 20)).1 ?_
  refine range_turns_plain rfl (by omega) (gf := 19) (lb := #[.pointer (some ⟨W3.heap.size, 0, none⟩)]) rfl trivial (enters_of Tryd.func19 (by kernel_rfl) rfl)
    (X := []) (Y := [0]) (by simp) (fun k hk => by simp at hk; omega) HSEQ.out (fun _ => rfl) (fun _ _ _ h _ => h) (fun _ _ _ h _ => h)
    (fun pre W => AwB w W W2.heap.size pre) (fun _ _ _ => False) (fun xs A B h mm => h.mild mm (by omega)) (fun _ _ _ _ h _ => h.elim) HB0.out
    ?a1 ?assign ?body ?done ?stop
  case stop =>
    rintro D c xs W _ _ h _
    exact h.elim
  case assign =>
    intro l x W K hK
    gi_wp2
    exact hK
  case body =>
    rintro l pre x W hI hsp
    have HI := Lib.hid hI
    have b1 := cell1 hI.n
    have bf1 := frozen_of_row W W2.heap.size 0 _ _ hI.n
    have fin : ∀ (a' : Act) (v : Int), v = tens (pre ++ [x]) → leftPost W4.heap.size [0] (fun pre W => AwB w W W2.heap.size pre) (fun _ _ _ => False) (pre ++ [x]) W .normal a' (W.setCell ⟨W2.heap.size, 0, none⟩ (.int .i64 v)) := by
      rintro a' v rfl
      refine ⟨(KeepsOthers.setCell _ _ _).from _, fun k hk => Below.heap_setCell _ _ _ _ (by simp at hk ⊢; omega), ?_, HI.out.t.setCell (.inr (by simp; omega)) _⟩
      rw [heap_setCell_same _ _ _ _ _ _ HI.out.n]
      rfl
    have HFin := Lib.hid fin
    rcases pre10 hsp with ⟨rfl, rfl⟩ | ⟨rfl, rfl⟩
    · rw [show tens [] = 0 from rfl] at b1
      clear hsp hI fin
      gi_wp2
      exact HFin.out _ 1 (by decide)
    · rw [show tens [1] = 1 from rfl] at b1
      clear hsp hI fin
      gi_wp2
      exact HFin.out _ 13 (by decide)
  case done =>
    rintro D xs W hD rfl hI hK
    have HI := Lib.hid hI
    have HKD := Lib.hid hK
    have b1 := cell1 hI.n
    rw [list10, show tens [1, 3] = 13 by decide] at b1
    have HTW := Lib.hid (HT.out.turned hI.t (by simp))
    have H3 := Lib.hid (fun V : World => has_any 10 3 V (by decide) ⟨by decide, by decide⟩)
    have H2 := Lib.hid (fun V : World => has_any 10 2 V (by decide) ⟨by decide, by decide⟩)
    have HL := Lib.hid (fun V : World => len_any 10 V (by decide))
    have HF := Lib.hid (fun (V : World) (h : TabOk V) => first_any 10 (by decide) V h)
    rw [show hasN 10 3 = true by decide +kernel] at H3
    rw [show hasN 10 2 = false by decide +kernel] at H2
    rw [list10] at HL
    rw [show firstN 10 = 1 by decide +kernel] at HF
    simp only [List.length_cons, List.length_nil, Nat.reduceAdd, show ((10 : Nat) : Int) = 10 from rfl, show ((0 + 1 + 1 : Nat) : Int) = 2 from rfl] at HL
    simp only [show ((10 : Nat) : Int) = 10 from rfl] at H2 H3 HF
    clear hI hK
    go_wp2_with fail
    with_reducible refine (H3.out _).mono ?_
    rintro e V ⟨rfl, n1, rfl⟩
    go_wp2_with fail
    with_reducible refine (H2.out _).mono ?_
    rintro e V ⟨rfl, n2, rfl⟩
    go_wp2_with fail
    with_reducible refine (HL.out _).mono ?_
    rintro e V ⟨rfl, n3, rfl⟩
    go_wp2_with fail
    with_reducible refine (HF.out _ (HTW.out.drewN _)).mono ?_
    rintro e V ⟨rfl, rfl⟩
    go_wp2
    refine ⟨by simp, .inl ⟨_, _, rfl, run_takeDeferred (show (W.drewN (n1 + n2 + n3)).heap[D]? = _ from HKD.out), ?_⟩⟩
    exact ⟨_, results_tmp rfl _ _ _, rfl, ((HI.out.t.drewN (n1 + n2 + n3)).put (by omega) _).below (by simp) (Nat.le_refl _)⟩
end Go.Proofs.YtppdjdlnaohkiaaDoor
