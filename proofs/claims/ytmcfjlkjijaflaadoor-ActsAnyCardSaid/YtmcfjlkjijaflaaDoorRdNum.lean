/-
  The program's reader: number.
-/
import Derived.Test.YtmcfjlkjijaflaaDoorRdTake
namespace Go.Proofs.YtmcfjlkjijaflaaDoor
open Go.RowKit

/-- Words with no field that they haven't. -/
def Clean (L : List Wd) : Prop := ∀ x ∈ L, (x.1 ≠ 2 → x.2.2.1 = 0) ∧ (x.1 = 2 → x.2.1 = [])
theorem next_form (L : List Wd) (c : Nat) : ∃ (k : Int) (t : List By) (m : Int), nextR L c = (k, t, m, 0) := by
  unfold nextR
  split
  · exact ⟨_, _, _, rfl⟩
  · exact ⟨_, _, _, rfl⟩
theorem next_lt {L : List Wd} {c : Nat} (h : (nextR L c).1 ≠ 0) : c < L.length := by
  by_cases hc : c < L.length
  · exact hc
  · rw [next_end (by omega)] at h
    exact absurd rfl h
/-- What number answers: a value, the place, the error. -/
def rdnR (L : List Wd) (c : Nat) (lo hi : Int) (e : Int) : Int × Nat × Int :=
  if e ≠ 0 then (0, c, e) else match argR L c lo hi with
  | .ok (n, a) => (n, a, 0)
  | .error (a, k) => (0, a, k)
theorem num_no {L : List Wd} (hL : Clean L) {c : Nat} {lo hi e : Int} (h : ¬ ((nextR L c).1 = 2 ∧ (nextR L c).2.1 = [])) : rdnR L c lo hi e = (0, c, failE e 5) := by
  unfold rdnR failE
  by_cases he : e = 0
  · rw [if_neg (by simpa using he), if_pos he]
    have : argR L c lo hi = .error (c, 5) := by
      by_cases hc : c < L.length
      · rw [next_at hc] at h
        simp only at h
        refine arg_kind hc (fun hk => h ⟨hk, (hL _ (List.getElem_mem hc)).2 hk⟩)
      · exact arg_none (by omega)
    rw [this]
  · rw [if_pos he, if_neg he]
theorem num_out {L : List Wd} {c : Nat} {lo hi e n : Int} (h : nextR L c = (2, [], n, 0)) (hn : ¬ (lo ≤ n ∧ n ≤ hi)) : rdnR L c lo hi e = (0, c, failE e 1) := by
  unfold rdnR failE
  by_cases he : e = 0
  · rw [if_neg (by simpa using he), if_pos he]
    have hc := next_lt (L := L) (c := c) (by rw [h]; simp)
    rw [next_at hc] at h
    simp only [Prod.mk.injEq] at h
    rw [arg_range hc h.1 (by omega)]
  · rw [if_pos he, if_neg he]
theorem num_ok {L : List Wd} {c : Nat} {lo hi n : Int} (h : nextR L c = (2, [], n, 0)) (hn : lo ≤ n ∧ n ≤ hi) : rdnR L c lo hi 0 = (n, c + 1, 0) := by
  unfold rdnR
  rw [if_neg (by simp)]
  have hc := next_lt (L := L) (c := c) (by rw [h]; simp)
  rw [next_at hc] at h
  simp only [Prod.mk.injEq] at h
  rw [arg_ok hc h.1 (by omega), h.2.2.1]
theorem num_dead {L : List Wd} {c : Nat} {lo hi e : Int} (he : e ≠ 0) : rdnR L c lo hi e = (0, c, e) := by
  unfold rdnR
  rw [if_pos he]
abbrev NumP (v : Int) (w : World) (b : Nat) (ao : Option Addr) (n cap c : Nat) (e : Int) : Ending → World → Prop := StepP (.int .i64 v) w b ao n cap c e
/-- The box of the span, and the reader. -/
theorem num_boxes {w : World} {b : Nat} {ao : Option Addr} {bw off cap : Nat} {L : List Wd} {c : Nat} {e : Int} (h : RdI w b ao bw off cap L c e) (X : Obj) :
    RdI (w.alloc X) b ao bw off cap L c e := h.below ((Below.refl _ w).alloc (Nat.le_refl _) _)
theorem num_boxes2 {w w1 : World} {X Y : Obj} (hb : Below (w.alloc X).heap.size (w.alloc X) w1) :
    ∀ V, Below (w1.alloc Y).heap.size (w1.alloc Y) V → V.heap[w1.heap.size]? = some Y ∧ V.heap[w.heap.size]? = some X ∧ Below (w.alloc X).heap.size (w.alloc X) V ∧ w.heap.size < w1.heap.size := by
  intro V hV
  have hl : w.heap.size < w1.heap.size := lt_of_block (box_kept hb).1
  refine ⟨(hV.block _ (by simp)).trans (heap_alloc_new _ _), (hV.block _ (by simp; omega)).trans ((Below.heap_alloc _ _ _ hl).trans (box_kept hb).1), ?_, hl⟩
  exact (hb.alloc hb.size _).trans (hV.mono (by have := hb.size; simp at this ⊢; omega))
set_option maxRecDepth 100000 in
set_option maxHeartbeats 3200000 in
theorem number_no {w : World} {b : Nat} {ao : Option Addr} {bw off cap : Nat} {L : List Wd} {c : Nat} {e : Int} (h : RdI w b ao bw off cap L c e) (hL : Clean L) (lo hi : Int) (hx : ¬ ((nextR L c).1 = 2 ∧ (nextR L c).2.1 = [])) :
    Calls Tryd.prog 94 #[.pointer (some ⟨b, 0, none⟩), .agg #[.int .i64 lo, .int .i64 hi]] w (NumP (rdnR L c lo hi e).1 w b ao L.length cap (rdnR L c lo hi e).2.1 (rdnR L c lo hi e).2.2) := by
  rw [num_no hL hx]
  simp only
  have hf0 : failE e 5 ≠ 0 := by
    unfold failE
    split
    · decide
    · next he => exact he
  have HNX := Lib.hid (next_any (num_boxes h (.cells #[.int .i64 lo, .int .i64 hi] 81)))
  have HRD := Lib.hid (fun V (hV : Below (w.alloc (.cells #[.int .i64 lo, .int .i64 hi] 81)).heap.size (w.alloc (.cells #[.int .i64 lo, .int .i64 hi] 81)) V) => (num_boxes h (.cells #[.int .i64 lo, .int .i64 hi] 81)).below hV)
  obtain ⟨y0, ty, y2, hy⟩ := next_form L c
  rw [hy] at hx
  simp only [hy] at HNX
  have hq := fun W => neq_words (y0, ty, y2, 0) (2, [], y2, 0) W
  rw [decide_eq_false (by rintro he; simp only [Prod.mk.injEq] at he; exact hx ⟨he.1, he.2.1⟩), Bool.not_false] at hq
  unfold wdV at hq HNX
  simp only at hq HNX
  obtain ⟨tb, htb⟩ : ∃ t : ByteArray, ⟨ty.toArray⟩ = t := ⟨_, rfl⟩
  simp only [htb] at hq HNX

  have HPN := Lib.hid (fun n W => pnum_any n W)
  have HAS := Lib.hid (fun W => has_any lo hi y2 W)
  clear HAS
  have HLE := Lib.hid h.le
  have HBW := Lib.hid (lt_of_block h.rd)
  have htk := fun V (hV : RdI V b ao bw off cap L c (failE e 5)) => take_dead hV hf0 (y0, ty, y2, 0)
  unfold wdV at htk
  simp only [htb] at htk
  have HTK := Lib.hid htk
  clear htk
  obtain ⟨e5, he5⟩ : ∃ e5, failE e 5 = e5 := ⟨_, rfl⟩
  have HFL := Lib.hid (fun V (hV : RdI V b ao bw off cap L c e) => fail_any hV.rd 5)
  simp only [he5] at HFL HTK ⊢
  clear hx hy he5 h htb hf0
  go_enter Tryd.func94, Tryd.ntmps94
  go_wp2_with fail
  with_reducible refine HNX.out.mono ?_
  rintro r w1 ⟨rfl, hb1⟩
  have HX := Lib.hid (num_boxes2 (Y := .cells #[.int .i64 y0, .string tb, .int .i64 y2, .int .i64 0] 74) hb1)
  have HB0 := Lib.hid ((Below.refl (w1.alloc (.cells #[.int .i64 y0, .string tb, .int .i64 y2, .int .i64 0] 74)).heap.size (w1.alloc (.cells #[.int .i64 y0, .string tb, .int .i64 y2, .int .i64 0] 74))).drew)
  have s0 := word_cells (HX.out _ HB0.out).1
  clear hb1
  go_wp2_with fail
  go_region_held3 (fun V => V.cell? ⟨w1.heap.size, 0, none⟩ = some (.int .i64 y0) ∧ V.cell? ⟨w1.heap.size, 1, none⟩ = some (.string tb) ∧ V.cell? ⟨w1.heap.size, 2, none⟩ = some (.int .i64 y2) ∧ V.cell? ⟨w1.heap.size, 3, none⟩ = some (.int .i64 0))
    (first | exact s0 | exact s1)
    (first
      | (go_at_call 66
         with_reducible refine (HPN.out _ _).mono ?_
         rintro r V1 ⟨rfl, hb⟩
         have HV1 := Lib.hid (HB0.out.trans (hb.mono HB0.out.size))
         have s1 := word_cells (HX.out _ HV1.out).1
         clear hb))
  clear s0 s1 hq
  have hne : w1.heap.size ∉ [b] := by
    have h1 := (HX.out _ HV1.out).2.2.2
    have h2 := HBW.out
    simp
    omega
  have HNE := Lib.hid hne
  clear hne
  have HR1 := Lib.hid (HRD.out _ (HX.out _ HV1.out).2.2.1)
  go_wp2_with fail
  with_reducible refine (HFL.out _ HR1.out).mono ?_
  rintro r V3 ⟨rfl, hr, ht⟩
  have HR3 := Lib.hid (HR1.out.turned ht hr HLE.out)
  have HW3 := Lib.hid (ht.same (HX.out _ HV1.out).1 HNE.out)
  have HT3 := Lib.hid ((turned_box rfl (turned_below (HX.out _ HV1.out).2.2.1 [b])).trans ht (Newer.refl _ _))
  clear hr ht
  obtain ⟨d0, d1, d2, d3⟩ := word_cells HW3.out
  go_wp2_with fail
  with_reducible refine (HTK.out _ HR3.out).mono ?_
  rintro r V4 ⟨rfl, hr, ht⟩
  have HR4 := Lib.hid hr
  have HT4 := Lib.hid (HT3.out.trans ht (Newer.refl _ _))
  clear hr ht d0 d1 d2 d3
  go_wp2
  go_ret
  exact ⟨rfl, HR4.out, HT4.out⟩
set_option maxRecDepth 100000 in
set_option maxHeartbeats 3200000 in
theorem number_out {w : World} {b : Nat} {ao : Option Addr} {bw off cap : Nat} {L : List Wd} {c : Nat} {e : Int} (h : RdI w b ao bw off cap L c e) (lo hi y2 : Int) (hy : nextR L c = (2, [], y2, 0)) (hn : ¬ (lo ≤ y2 ∧ y2 ≤ hi)) :
    Calls Tryd.prog 94 #[.pointer (some ⟨b, 0, none⟩), .agg #[.int .i64 lo, .int .i64 hi]] w (NumP (rdnR L c lo hi e).1 w b ao L.length cap (rdnR L c lo hi e).2.1 (rdnR L c lo hi e).2.2) := by
  rw [num_out hy hn]
  simp only
  have hf0 : failE e 1 ≠ 0 := by
    unfold failE
    split
    · decide
    · next he => exact he
  have HNX := Lib.hid (next_any (num_boxes h (.cells #[.int .i64 lo, .int .i64 hi] 81)))
  have HRD := Lib.hid (fun V (hV : Below (w.alloc (.cells #[.int .i64 lo, .int .i64 hi] 81)).heap.size (w.alloc (.cells #[.int .i64 lo, .int .i64 hi] 81)) V) => (num_boxes h (.cells #[.int .i64 lo, .int .i64 hi] 81)).below hV)
  have hq := fun W => neq_words (2, [], y2, 0) (2, [], y2, 0) W
  rw [decide_eq_true rfl, Bool.not_true] at hq
  simp only [hy] at HNX
  unfold wdV at hq HNX
  simp only at hq HNX

  have HPN := Lib.hid (fun n W => pnum_any n W)
  have HAS := Lib.hid (fun W => has_any lo hi y2 W)
  rw [show (decide (lo ≤ y2) && decide (y2 ≤ hi)) = false by rw [Bool.and_eq_false_iff, decide_eq_false_iff_not, decide_eq_false_iff_not]; omega] at HAS
  have HLE := Lib.hid h.le
  have HBW := Lib.hid (lt_of_block h.rd)
  have htk := fun V (hV : RdI V b ao bw off cap L c (failE e 1)) => take_dead hV hf0 (2, [], y2, 0)
  unfold wdV at htk
  simp only at htk
  have HTK := Lib.hid htk
  clear htk
  obtain ⟨e5, he5⟩ : ∃ e5, failE e 1 = e5 := ⟨_, rfl⟩
  have HFL := Lib.hid (fun V (hV : RdI V b ao bw off cap L c e) => fail_any hV.rd 1)
  simp only [he5] at HFL HTK ⊢
  clear hy he5 h hf0 hn
  go_enter Tryd.func94, Tryd.ntmps94
  go_wp2_with fail
  with_reducible refine HNX.out.mono ?_
  rintro r w1 ⟨rfl, hb1⟩
  have HX := Lib.hid (num_boxes2 (Y := .cells #[.int .i64 2, .string ⟨#[]⟩, .int .i64 y2, .int .i64 0] 74) hb1)
  have HB0 := Lib.hid ((Below.refl (w1.alloc (.cells #[.int .i64 2, .string ⟨#[]⟩, .int .i64 y2, .int .i64 0] 74)).heap.size (w1.alloc (.cells #[.int .i64 2, .string ⟨#[]⟩, .int .i64 y2, .int .i64 0] 74))).drew)
  have s0 := word_cells (HX.out _ HB0.out).1
  clear hb1
  go_wp2_with fail
  go_region_held3 (fun V => V.cell? ⟨w1.heap.size, 0, none⟩ = some (.int .i64 2) ∧ V.cell? ⟨w1.heap.size, 1, none⟩ = some (.string ⟨#[]⟩) ∧ V.cell? ⟨w1.heap.size, 2, none⟩ = some (.int .i64 y2) ∧ V.cell? ⟨w1.heap.size, 3, none⟩ = some (.int .i64 0))
    (first | exact s0 | exact s1)
    (first
      | (go_at_call 66
         with_reducible refine (HPN.out _ _).mono ?_
         rintro r V1 ⟨rfl, hb⟩
         have HV1 := Lib.hid (HB0.out.trans (hb.mono HB0.out.size))
         have s1 := word_cells (HX.out _ HV1.out).1
         clear hb))
  clear s0 s1 hq
  have hne : w1.heap.size ∉ [b] := by
    have h1 := (HX.out _ HV1.out).2.2.2
    have h2 := HBW.out
    simp
    omega
  have HNE := Lib.hid hne
  clear hne
  obtain ⟨c0, c1⟩ := two_cells (HX.out _ HV1.out).2.1
  obtain ⟨d0, d1, d2, d3⟩ := word_cells (HX.out _ HV1.out).1
  go_wp2_with fail
  with_reducible refine (HAS.out _).mono ?_
  rintro r V2 ⟨rfl, hb⟩
  have HV2 := Lib.hid (HV1.out.trans (hb.mono HV1.out.size))
  have HR2 := Lib.hid (HRD.out _ (HX.out _ HV2.out).2.2.1)
  clear hb c0 c1 d0 d1 d2 d3
  go_wp2_with fail
  with_reducible refine (HFL.out _ HR2.out).mono ?_
  rintro r V3 ⟨rfl, hr, ht⟩
  have HR3 := Lib.hid (HR2.out.turned ht hr HLE.out)
  have HW3 := Lib.hid (ht.same (HX.out _ HV2.out).1 HNE.out)
  have HT3 := Lib.hid ((turned_box rfl (turned_below (HX.out _ HV2.out).2.2.1 [b])).trans ht (Newer.refl _ _))
  clear hr ht
  obtain ⟨d0, d1, d2, d3⟩ := word_cells HW3.out
  go_wp2_with fail
  with_reducible refine (HTK.out _ HR3.out).mono ?_
  rintro r V4 ⟨rfl, hr, ht⟩
  have HR4 := Lib.hid hr
  have HT4 := Lib.hid (HT3.out.trans ht (Newer.refl _ _))
  clear hr ht d0 d1 d2 d3
  go_wp2
  go_ret
  exact ⟨rfl, HR4.out, HT4.out⟩
set_option maxRecDepth 100000 in
set_option maxHeartbeats 3200000 in
theorem number_ok {w : World} {b : Nat} {ao : Option Addr} {bw off cap : Nat} {L : List Wd} {c : Nat} {e : Int} (h : RdI w b ao bw off cap L c e) (he : e = 0) (lo hi y2 : Int) (hy : nextR L c = (2, [], y2, 0)) (hn : lo ≤ y2 ∧ y2 ≤ hi) :
    Calls Tryd.prog 94 #[.pointer (some ⟨b, 0, none⟩), .agg #[.int .i64 lo, .int .i64 hi]] w (NumP (rdnR L c lo hi e).1 w b ao L.length cap (rdnR L c lo hi e).2.1 (rdnR L c lo hi e).2.2) := by
  subst he
  rw [num_ok hy hn]
  simp only
  have HNX := Lib.hid (next_any (num_boxes h (.cells #[.int .i64 lo, .int .i64 hi] 81)))
  have HRD := Lib.hid (fun V (hV : Below (w.alloc (.cells #[.int .i64 lo, .int .i64 hi] 81)).heap.size (w.alloc (.cells #[.int .i64 lo, .int .i64 hi] 81)) V) => (num_boxes h (.cells #[.int .i64 lo, .int .i64 hi] 81)).below hV)
  have hq := fun W => neq_words (2, [], y2, 0) (2, [], y2, 0) W
  rw [decide_eq_true rfl, Bool.not_true] at hq
  simp only [hy] at HNX
  unfold wdV at hq HNX
  simp only at hq HNX

  have HPN := Lib.hid (fun n W => pnum_any n W)
  have HAS := Lib.hid (fun W => has_any lo hi y2 W)
  rw [show (decide (lo ≤ y2) && decide (y2 ≤ hi)) = true by rw [decide_eq_true hn.1, decide_eq_true hn.2]; rfl] at HAS
  have HLE := Lib.hid h.le
  have HBW := Lib.hid (lt_of_block h.rd)
  have htk := fun V (hV : RdI V b ao bw off cap L c 0) => take_yes hV (next_lt (by rw [hy]; simp)) hy
  unfold wdV at htk
  simp only at htk
  have HTK := Lib.hid htk
  clear htk hy h hn
  go_enter Tryd.func94, Tryd.ntmps94
  go_wp2_with fail
  with_reducible refine HNX.out.mono ?_
  rintro r w1 ⟨rfl, hb1⟩
  have HX := Lib.hid (num_boxes2 (Y := .cells #[.int .i64 2, .string ⟨#[]⟩, .int .i64 y2, .int .i64 0] 74) hb1)
  have HB0 := Lib.hid ((Below.refl (w1.alloc (.cells #[.int .i64 2, .string ⟨#[]⟩, .int .i64 y2, .int .i64 0] 74)).heap.size (w1.alloc (.cells #[.int .i64 2, .string ⟨#[]⟩, .int .i64 y2, .int .i64 0] 74))).drew)
  have s0 := word_cells (HX.out _ HB0.out).1
  clear hb1
  go_wp2_with fail
  go_region_held3 (fun V => V.cell? ⟨w1.heap.size, 0, none⟩ = some (.int .i64 2) ∧ V.cell? ⟨w1.heap.size, 1, none⟩ = some (.string ⟨#[]⟩) ∧ V.cell? ⟨w1.heap.size, 2, none⟩ = some (.int .i64 y2) ∧ V.cell? ⟨w1.heap.size, 3, none⟩ = some (.int .i64 0))
    (first | exact s0 | exact s1)
    (first
      | (go_at_call 66
         with_reducible refine (HPN.out _ _).mono ?_
         rintro r V1 ⟨rfl, hb⟩
         have HV1 := Lib.hid (HB0.out.trans (hb.mono HB0.out.size))
         have s1 := word_cells (HX.out _ HV1.out).1
         clear hb))
  clear s0 s1 hq
  have hne : w1.heap.size ∉ [b] := by
    have h1 := (HX.out _ HV1.out).2.2.2
    have h2 := HBW.out
    simp
    omega
  have HNE := Lib.hid hne
  clear hne
  obtain ⟨c0, c1⟩ := two_cells (HX.out _ HV1.out).2.1
  obtain ⟨d0, d1, d2, d3⟩ := word_cells (HX.out _ HV1.out).1
  go_wp2_with fail
  with_reducible refine (HAS.out _).mono ?_
  rintro r V2 ⟨rfl, hb⟩
  have HV2 := Lib.hid (HV1.out.trans (hb.mono HV1.out.size))
  have HR2 := Lib.hid (HRD.out _ (HX.out _ HV2.out).2.2.1)
  clear hb c0 c1 d0 d1 d2 d3
  obtain ⟨d0, d1, d2, d3⟩ := word_cells (HX.out _ HV2.out).1
  go_wp2_with fail
  with_reducible refine (HTK.out _ HR2.out).mono ?_
  rintro r V4 ⟨rfl, hr, ht⟩
  have HR4 := Lib.hid hr
  have HT4 := Lib.hid ((turned_box rfl (turned_below (HX.out _ HV2.out).2.2.1 [b])).trans ht (Newer.refl _ _))
  have hw4 := ht.same (HX.out _ HV2.out).1 HNE.out
  clear hr ht d0 d1 d2 d3
  obtain ⟨d0, d1, d2, d3⟩ := word_cells hw4
  clear hw4
  go_wp2
  go_ret
  exact ⟨rfl, HR4.out, HT4.out⟩
set_option maxRecDepth 100000 in
set_option maxHeartbeats 3200000 in
theorem number_dead {w : World} {b : Nat} {ao : Option Addr} {bw off cap : Nat} {L : List Wd} {c : Nat} {e : Int} (h : RdI w b ao bw off cap L c e) (he : e ≠ 0) (lo hi y2 : Int) (hy : nextR L c = (2, [], y2, 0)) (hn : lo ≤ y2 ∧ y2 ≤ hi) :
    Calls Tryd.prog 94 #[.pointer (some ⟨b, 0, none⟩), .agg #[.int .i64 lo, .int .i64 hi]] w (NumP (rdnR L c lo hi e).1 w b ao L.length cap (rdnR L c lo hi e).2.1 (rdnR L c lo hi e).2.2) := by
  rw [num_dead he]
  simp only
  have HNX := Lib.hid (next_any (num_boxes h (.cells #[.int .i64 lo, .int .i64 hi] 81)))
  have HRD := Lib.hid (fun V (hV : Below (w.alloc (.cells #[.int .i64 lo, .int .i64 hi] 81)).heap.size (w.alloc (.cells #[.int .i64 lo, .int .i64 hi] 81)) V) => (num_boxes h (.cells #[.int .i64 lo, .int .i64 hi] 81)).below hV)
  have hq := fun W => neq_words (2, [], y2, 0) (2, [], y2, 0) W
  rw [decide_eq_true rfl, Bool.not_true] at hq
  simp only [hy] at HNX
  unfold wdV at hq HNX
  simp only at hq HNX

  have HPN := Lib.hid (fun n W => pnum_any n W)
  have HAS := Lib.hid (fun W => has_any lo hi y2 W)
  rw [show (decide (lo ≤ y2) && decide (y2 ≤ hi)) = true by rw [decide_eq_true hn.1, decide_eq_true hn.2]; rfl] at HAS
  have HLE := Lib.hid h.le
  have HBW := Lib.hid (lt_of_block h.rd)
  have htk := fun V (hV : RdI V b ao bw off cap L c e) => take_dead hV he (2, [], y2, 0)
  unfold wdV at htk
  simp only at htk
  have HTK := Lib.hid htk
  clear htk hy h hn
  go_enter Tryd.func94, Tryd.ntmps94
  go_wp2_with fail
  with_reducible refine HNX.out.mono ?_
  rintro r w1 ⟨rfl, hb1⟩
  have HX := Lib.hid (num_boxes2 (Y := .cells #[.int .i64 2, .string ⟨#[]⟩, .int .i64 y2, .int .i64 0] 74) hb1)
  have HB0 := Lib.hid ((Below.refl (w1.alloc (.cells #[.int .i64 2, .string ⟨#[]⟩, .int .i64 y2, .int .i64 0] 74)).heap.size (w1.alloc (.cells #[.int .i64 2, .string ⟨#[]⟩, .int .i64 y2, .int .i64 0] 74))).drew)
  have s0 := word_cells (HX.out _ HB0.out).1
  clear hb1
  go_wp2_with fail
  go_region_held3 (fun V => V.cell? ⟨w1.heap.size, 0, none⟩ = some (.int .i64 2) ∧ V.cell? ⟨w1.heap.size, 1, none⟩ = some (.string ⟨#[]⟩) ∧ V.cell? ⟨w1.heap.size, 2, none⟩ = some (.int .i64 y2) ∧ V.cell? ⟨w1.heap.size, 3, none⟩ = some (.int .i64 0))
    (first | exact s0 | exact s1)
    (first
      | (go_at_call 66
         with_reducible refine (HPN.out _ _).mono ?_
         rintro r V1 ⟨rfl, hb⟩
         have HV1 := Lib.hid (HB0.out.trans (hb.mono HB0.out.size))
         have s1 := word_cells (HX.out _ HV1.out).1
         clear hb))
  clear s0 s1 hq
  have hne : w1.heap.size ∉ [b] := by
    have h1 := (HX.out _ HV1.out).2.2.2
    have h2 := HBW.out
    simp
    omega
  have HNE := Lib.hid hne
  clear hne
  obtain ⟨c0, c1⟩ := two_cells (HX.out _ HV1.out).2.1
  obtain ⟨d0, d1, d2, d3⟩ := word_cells (HX.out _ HV1.out).1
  go_wp2_with fail
  with_reducible refine (HAS.out _).mono ?_
  rintro r V2 ⟨rfl, hb⟩
  have HV2 := Lib.hid (HV1.out.trans (hb.mono HV1.out.size))
  have HR2 := Lib.hid (HRD.out _ (HX.out _ HV2.out).2.2.1)
  clear hb c0 c1 d0 d1 d2 d3
  obtain ⟨d0, d1, d2, d3⟩ := word_cells (HX.out _ HV2.out).1
  go_wp2_with fail
  with_reducible refine (HTK.out _ HR2.out).mono ?_
  rintro r V4 ⟨rfl, hr, ht⟩
  have HR4 := Lib.hid hr
  have HT4 := Lib.hid ((turned_box rfl (turned_below (HX.out _ HV2.out).2.2.1 [b])).trans ht (Newer.refl _ _))
  have hw4 := ht.same (HX.out _ HV2.out).1 HNE.out
  clear hr ht d0 d1 d2 d3
  obtain ⟨d0, d1, d2, d3⟩ := word_cells hw4
  clear hw4
  go_wp2
  go_ret
  exact ⟨rfl, HR4.out, HT4.out⟩
/-- The reader's number, live or not. -/
theorem number_any {w : World} {b : Nat} {ao : Option Addr} {bw off cap : Nat} {L : List Wd} {c : Nat} {e : Int} (h : RdI w b ao bw off cap L c e) (hL : Clean L) (lo hi : Int) :
    Calls Tryd.prog 94 #[.pointer (some ⟨b, 0, none⟩), .agg #[.int .i64 lo, .int .i64 hi]] w (NumP (rdnR L c lo hi e).1 w b ao L.length cap (rdnR L c lo hi e).2.1 (rdnR L c lo hi e).2.2) := by
  by_cases hx : (nextR L c).1 = 2 ∧ (nextR L c).2.1 = []
  · obtain ⟨k, t, n, hy⟩ := next_form L c
    rw [hy] at hx
    simp only at hx
    obtain ⟨rfl, rfl⟩ := hx
    by_cases hn : lo ≤ n ∧ n ≤ hi
    · by_cases he : e = 0
      · exact number_ok h he lo hi n hy hn
      · exact number_dead h he lo hi n hy hn
    · exact number_out h lo hi n hy hn
  · exact number_no h hL lo hi hx
end Go.Proofs.YtmcfjlkjijaflaaDoor
