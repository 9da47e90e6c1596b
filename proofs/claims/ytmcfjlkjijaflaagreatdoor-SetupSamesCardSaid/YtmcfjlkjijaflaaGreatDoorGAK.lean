/-
  The program's reader: number.
  The program's reader: op. (Made by gen_op.py.)
  The program's reader, plainly: what op and ops come to; op of any words.
-/
import Derived.Test.YtmcfjlkjijaflaaGreatDoorGAJ

/- The program's reader: number. -/
namespace Go.Proofs.YtmcfjlkjijaflaaGreatDoor
open Go.RowKit

/-- Words with no field that they haven't. -/
def Clean (L : List Wd) : Prop := ∀ x ∈ L, (x.1 ≠ 2 → x.2.2.1 = 0) ∧ (x.1 = 2 → x.2.1 = [])
theorem next_form (L : List Wd) (c : Nat) : ∃ (k : Int) (t : List By) (m : Int), nextR L c = (k, t, m, 0) := by
  unfold nextR
  split
  · exact ⟨_, _, _, rfl⟩
  · exact ⟨_, _, _, rfl⟩
theorem next_lt {L : List Wd} {c : Nat} (h : (nextR L c).1 ≠ 0) : c < L.length := by
  by_cases hc : c < L.length
  · exact hc
  · rw [next_end (by omega)] at h
    exact absurd rfl h
/-- What number answers: a value, the place, the error. -/
def rdnR (L : List Wd) (c : Nat) (lo hi : Int) (e : Int) : Int × Nat × Int :=
  if e ≠ 0 then (0, c, e) else match argR L c lo hi with
  | .ok (n, a) => (n, a, 0)
  | .error (a, k) => (0, a, k)
theorem num_no {L : List Wd} (hL : Clean L) {c : Nat} {lo hi e : Int} (h : ¬ ((nextR L c).1 = 2 ∧ (nextR L c).2.1 = [])) : rdnR L c lo hi e = (0, c, failE e 5) := by
  unfold rdnR failE
  by_cases he : e = 0
  · rw [if_neg (by simpa using he), if_pos he]
    have : argR L c lo hi = .error (c, 5) := by
      by_cases hc : c < L.length
      · rw [next_at hc] at h
        simp only at h
        refine arg_kind hc (fun hk => h ⟨hk, (hL _ (List.getElem_mem hc)).2 hk⟩)
      · exact arg_none (by omega)
    rw [this]
  · rw [if_pos he, if_neg he]
theorem num_out {L : List Wd} {c : Nat} {lo hi e n : Int} (h : nextR L c = (2, [], n, 0)) (hn : ¬ (lo ≤ n ∧ n ≤ hi)) : rdnR L c lo hi e = (0, c, failE e 1) := by
  unfold rdnR failE
  by_cases he : e = 0
  · rw [if_neg (by simpa using he), if_pos he]
    have hc := next_lt (L := L) (c := c) (by rw [h]; simp)
    rw [next_at hc] at h
    simp only [Prod.mk.injEq] at h
    rw [arg_range hc h.1 (by omega)]
  · rw [if_pos he, if_neg he]
theorem num_ok {L : List Wd} {c : Nat} {lo hi n : Int} (h : nextR L c = (2, [], n, 0)) (hn : lo ≤ n ∧ n ≤ hi) : rdnR L c lo hi 0 = (n, c + 1, 0) := by
  unfold rdnR
  rw [if_neg (by simp)]
  have hc := next_lt (L := L) (c := c) (by rw [h]; simp)
  rw [next_at hc] at h
  simp only [Prod.mk.injEq] at h
  rw [arg_ok hc h.1 (by omega), h.2.2.1]
theorem num_dead {L : List Wd} {c : Nat} {lo hi e : Int} (he : e ≠ 0) : rdnR L c lo hi e = (0, c, e) := by
  unfold rdnR
  rw [if_pos he]
abbrev NumP (v : Int) (w : World) (b : Nat) (ao : Option Addr) (n cap c : Nat) (e : Int) : Ending → World → Prop := StepP (.int .i64 v) w b ao n cap c e
/-- The box of the span, and the reader. -/
theorem num_boxes {w : World} {b : Nat} {ao : Option Addr} {bw off cap : Nat} {L : List Wd} {c : Nat} {e : Int} (h : RdI w b ao bw off cap L c e) (X : Obj) :
    RdI (w.alloc X) b ao bw off cap L c e := h.below ((Below.refl _ w).alloc (Nat.le_refl _) _)
theorem num_boxes2 {w w1 : World} {X Y : Obj} (hb : Below (w.alloc X).heap.size (w.alloc X) w1) :
    ∀ V, Below (w1.alloc Y).heap.size (w1.alloc Y) V → V.heap[w1.heap.size]? = some Y ∧ V.heap[w.heap.size]? = some X ∧ Below (w.alloc X).heap.size (w.alloc X) V ∧ w.heap.size < w1.heap.size := by
  intro V hV
  have hl : w.heap.size < w1.heap.size := lt_of_block (box_kept hb).1
  refine ⟨(hV.block _ (by simp)).trans (heap_alloc_new _ _), (hV.block _ (by simp; omega)).trans ((Below.heap_alloc _ _ _ hl).trans (box_kept hb).1), ?_, hl⟩
  exact (hb.alloc hb.size _).trans (hV.mono (by have := hb.size; simp at this ⊢; omega))
set_option maxRecDepth 100000 in
set_option maxHeartbeats 3200000 in
theorem number_no {w : World} {b : Nat} {ao : Option Addr} {bw off cap : Nat} {L : List Wd} {c : Nat} {e : Int} (h : RdI w b ao bw off cap L c e) (hL : Clean L) (lo hi : Int) (hx : ¬ ((nextR L c).1 = 2 ∧ (nextR L c).2.1 = [])) :
    Calls Tryz.prog 104 #[.pointer (some ⟨b, 0, none⟩), .agg #[.int .i64 lo, .int .i64 hi]] w (NumP (rdnR L c lo hi e).1 w b ao L.length cap (rdnR L c lo hi e).2.1 (rdnR L c lo hi e).2.2) := by
  rw [num_no hL hx]
  simp only
  have hf0 : failE e 5 ≠ 0 := by
    unfold failE
    split
    · decide
    · next he => exact he
  have HNX := Lib.hid (next_any (num_boxes h (.cells #[.int .i64 lo, .int .i64 hi] 100)))
  have HRD := Lib.hid (fun V (hV : Below (w.alloc (.cells #[.int .i64 lo, .int .i64 hi] 100)).heap.size (w.alloc (.cells #[.int .i64 lo, .int .i64 hi] 100)) V) => (num_boxes h (.cells #[.int .i64 lo, .int .i64 hi] 100)).below hV)
  obtain ⟨y0, ty, y2, hy⟩ := next_form L c
  rw [hy] at hx
  simp only [hy] at HNX
  have hq := fun W => neq_words (y0, ty, y2, 0) (2, [], y2, 0) W
  rw [decide_eq_false (by rintro he; simp only [Prod.mk.injEq] at he; exact hx ⟨he.1, he.2.1⟩), Bool.not_false] at hq
  unfold wdV at hq HNX
  simp only at hq HNX
  obtain ⟨tb, htb⟩ : ∃ t : ByteArray, ⟨ty.toArray⟩ = t := ⟨_, rfl⟩
  simp only [htb] at hq HNX

  have HPN := Lib.hid (fun n W => pnum_any n W)
  have HAS := Lib.hid (fun W => has_any lo hi y2 W)
  clear HAS
  have HLE := Lib.hid h.le
  have HBW := Lib.hid (lt_of_block h.rd)
  have htk := fun V (hV : RdI V b ao bw off cap L c (failE e 5)) => take_dead hV hf0 (y0, ty, y2, 0)
  unfold wdV at htk
  simp only [htb] at htk
  have HTK := Lib.hid htk
  clear htk
  obtain ⟨e5, he5⟩ : ∃ e5, failE e 5 = e5 := ⟨_, rfl⟩
  have HFL := Lib.hid (fun V (hV : RdI V b ao bw off cap L c e) => fail_any hV.rd 5)
  simp only [he5] at HFL HTK ⊢
  clear hx hy he5 h htb hf0
  go_enter Tryz.func104, Tryz.ntmps104
  go_wp2_with fail
  with_reducible refine HNX.out.mono ?_
  rintro r w1 ⟨rfl, hb1⟩
  have HX := Lib.hid (num_boxes2 (Y := .cells #[.int .i64 y0, .string tb, .int .i64 y2, .int .i64 0] 72) hb1)
  have HB0 := Lib.hid ((Below.refl (w1.alloc (.cells #[.int .i64 y0, .string tb, .int .i64 y2, .int .i64 0] 72)).heap.size (w1.alloc (.cells #[.int .i64 y0, .string tb, .int .i64 y2, .int .i64 0] 72))).drew)
  have s0 := word_cells (HX.out _ HB0.out).1
  clear hb1
  go_wp2_with fail
  go_region_held3 (fun V => V.cell? ⟨w1.heap.size, 0, none⟩ = some (.int .i64 y0) ∧ V.cell? ⟨w1.heap.size, 1, none⟩ = some (.string tb) ∧ V.cell? ⟨w1.heap.size, 2, none⟩ = some (.int .i64 y2) ∧ V.cell? ⟨w1.heap.size, 3, none⟩ = some (.int .i64 0))
    (first | exact s0 | exact s1)
    (first
      | (go_at_call 55
         with_reducible refine (HPN.out _ _).mono ?_
         rintro r V1 ⟨rfl, hb⟩
         have HV1 := Lib.hid (HB0.out.trans (hb.mono HB0.out.size))
         have s1 := word_cells (HX.out _ HV1.out).1
         clear hb))
  clear s0 s1 hq
  have hne : w1.heap.size ∉ [b] := by
    have h1 := (HX.out _ HV1.out).2.2.2
    have h2 := HBW.out
    simp
    omega
  have HNE := Lib.hid hne
  clear hne
  have HR1 := Lib.hid (HRD.out _ (HX.out _ HV1.out).2.2.1)
  go_wp2_with fail
  with_reducible refine (HFL.out _ HR1.out).mono ?_
  rintro r V3 ⟨rfl, hr, ht⟩
  have HR3 := Lib.hid (HR1.out.turned ht hr HLE.out)
  have HW3 := Lib.hid (ht.same (HX.out _ HV1.out).1 HNE.out)
  have HT3 := Lib.hid ((turned_box rfl (turned_below (HX.out _ HV1.out).2.2.1 [b])).trans ht (Newer.refl _ _))
  clear hr ht
  obtain ⟨d0, d1, d2, d3⟩ := word_cells HW3.out
  go_wp2_with fail
  with_reducible refine (HTK.out _ HR3.out).mono ?_
  rintro r V4 ⟨rfl, hr, ht⟩
  have HR4 := Lib.hid hr
  have HT4 := Lib.hid (HT3.out.trans ht (Newer.refl _ _))
  clear hr ht d0 d1 d2 d3
  go_wp2
  go_ret
  exact ⟨rfl, HR4.out, HT4.out⟩
set_option maxRecDepth 100000 in
set_option maxHeartbeats 3200000 in
theorem number_out {w : World} {b : Nat} {ao : Option Addr} {bw off cap : Nat} {L : List Wd} {c : Nat} {e : Int} (h : RdI w b ao bw off cap L c e) (lo hi y2 : Int) (hy : nextR L c = (2, [], y2, 0)) (hn : ¬ (lo ≤ y2 ∧ y2 ≤ hi)) :
    Calls Tryz.prog 104 #[.pointer (some ⟨b, 0, none⟩), .agg #[.int .i64 lo, .int .i64 hi]] w (NumP (rdnR L c lo hi e).1 w b ao L.length cap (rdnR L c lo hi e).2.1 (rdnR L c lo hi e).2.2) := by
  rw [num_out hy hn]
  simp only
  have hf0 : failE e 1 ≠ 0 := by
    unfold failE
    split
    · decide
    · next he => exact he
  have HNX := Lib.hid (next_any (num_boxes h (.cells #[.int .i64 lo, .int .i64 hi] 100)))
  have HRD := Lib.hid (fun V (hV : Below (w.alloc (.cells #[.int .i64 lo, .int .i64 hi] 100)).heap.size (w.alloc (.cells #[.int .i64 lo, .int .i64 hi] 100)) V) => (num_boxes h (.cells #[.int .i64 lo, .int .i64 hi] 100)).below hV)
  have hq := fun W => neq_words (2, [], y2, 0) (2, [], y2, 0) W
  rw [decide_eq_true rfl, Bool.not_true] at hq
  simp only [hy] at HNX
  unfold wdV at hq HNX
  simp only at hq HNX

  have HPN := Lib.hid (fun n W => pnum_any n W)
  have HAS := Lib.hid (fun W => has_any lo hi y2 W)
  rw [show (decide (lo ≤ y2) && decide (y2 ≤ hi)) = false by rw [Bool.and_eq_false_iff, decide_eq_false_iff_not, decide_eq_false_iff_not]; omega] at HAS
  have HLE := Lib.hid h.le
  have HBW := Lib.hid (lt_of_block h.rd)
  have htk := fun V (hV : RdI V b ao bw off cap L c (failE e 1)) => take_dead hV hf0 (2, [], y2, 0)
  unfold wdV at htk
  simp only at htk
  have HTK := Lib.hid htk
  clear htk
  obtain ⟨e5, he5⟩ : ∃ e5, failE e 1 = e5 := ⟨_, rfl⟩
  have HFL := Lib.hid (fun V (hV : RdI V b ao bw off cap L c e) => fail_any hV.rd 1)
  simp only [he5] at HFL HTK ⊢
  clear hy he5 h hf0 hn
  go_enter Tryz.func104, Tryz.ntmps104
  go_wp2_with fail
  with_reducible refine HNX.out.mono ?_
  rintro r w1 ⟨rfl, hb1⟩
  have HX := Lib.hid (num_boxes2 (Y := .cells #[.int .i64 2, .string ⟨#[]⟩, .int .i64 y2, .int .i64 0] 72) hb1)
  have HB0 := Lib.hid ((Below.refl (w1.alloc (.cells #[.int .i64 2, .string ⟨#[]⟩, .int .i64 y2, .int .i64 0] 72)).heap.size (w1.alloc (.cells #[.int .i64 2, .string ⟨#[]⟩, .int .i64 y2, .int .i64 0] 72))).drew)
  have s0 := word_cells (HX.out _ HB0.out).1
  clear hb1
  go_wp2_with fail
  go_region_held3 (fun V => V.cell? ⟨w1.heap.size, 0, none⟩ = some (.int .i64 2) ∧ V.cell? ⟨w1.heap.size, 1, none⟩ = some (.string ⟨#[]⟩) ∧ V.cell? ⟨w1.heap.size, 2, none⟩ = some (.int .i64 y2) ∧ V.cell? ⟨w1.heap.size, 3, none⟩ = some (.int .i64 0))
    (first | exact s0 | exact s1)
    (first
      | (go_at_call 55
         with_reducible refine (HPN.out _ _).mono ?_
         rintro r V1 ⟨rfl, hb⟩
         have HV1 := Lib.hid (HB0.out.trans (hb.mono HB0.out.size))
         have s1 := word_cells (HX.out _ HV1.out).1
         clear hb))
  clear s0 s1 hq
  have hne : w1.heap.size ∉ [b] := by
    have h1 := (HX.out _ HV1.out).2.2.2
    have h2 := HBW.out
    simp
    omega
  have HNE := Lib.hid hne
  clear hne
  obtain ⟨c0, c1⟩ := two_cells (HX.out _ HV1.out).2.1
  obtain ⟨d0, d1, d2, d3⟩ := word_cells (HX.out _ HV1.out).1
  go_wp2_with fail
  with_reducible refine (HAS.out _).mono ?_
  rintro r V2 ⟨rfl, hb⟩
  have HV2 := Lib.hid (HV1.out.trans (hb.mono HV1.out.size))
  have HR2 := Lib.hid (HRD.out _ (HX.out _ HV2.out).2.2.1)
  clear hb c0 c1 d0 d1 d2 d3
  go_wp2_with fail
  with_reducible refine (HFL.out _ HR2.out).mono ?_
  rintro r V3 ⟨rfl, hr, ht⟩
  have HR3 := Lib.hid (HR2.out.turned ht hr HLE.out)
  have HW3 := Lib.hid (ht.same (HX.out _ HV2.out).1 HNE.out)
  have HT3 := Lib.hid ((turned_box rfl (turned_below (HX.out _ HV2.out).2.2.1 [b])).trans ht (Newer.refl _ _))
  clear hr ht
  obtain ⟨d0, d1, d2, d3⟩ := word_cells HW3.out
  go_wp2_with fail
  with_reducible refine (HTK.out _ HR3.out).mono ?_
  rintro r V4 ⟨rfl, hr, ht⟩
  have HR4 := Lib.hid hr
  have HT4 := Lib.hid (HT3.out.trans ht (Newer.refl _ _))
  clear hr ht d0 d1 d2 d3
  go_wp2
  go_ret
  exact ⟨rfl, HR4.out, HT4.out⟩
set_option maxRecDepth 100000 in
set_option maxHeartbeats 3200000 in
theorem number_ok {w : World} {b : Nat} {ao : Option Addr} {bw off cap : Nat} {L : List Wd} {c : Nat} {e : Int} (h : RdI w b ao bw off cap L c e) (he : e = 0) (lo hi y2 : Int) (hy : nextR L c = (2, [], y2, 0)) (hn : lo ≤ y2 ∧ y2 ≤ hi) :
    Calls Tryz.prog 104 #[.pointer (some ⟨b, 0, none⟩), .agg #[.int .i64 lo, .int .i64 hi]] w (NumP (rdnR L c lo hi e).1 w b ao L.length cap (rdnR L c lo hi e).2.1 (rdnR L c lo hi e).2.2) := by
  subst he
  rw [num_ok hy hn]
  simp only
  have HNX := Lib.hid (next_any (num_boxes h (.cells #[.int .i64 lo, .int .i64 hi] 100)))
  have HRD := Lib.hid (fun V (hV : Below (w.alloc (.cells #[.int .i64 lo, .int .i64 hi] 100)).heap.size (w.alloc (.cells #[.int .i64 lo, .int .i64 hi] 100)) V) => (num_boxes h (.cells #[.int .i64 lo, .int .i64 hi] 100)).below hV)
  have hq := fun W => neq_words (2, [], y2, 0) (2, [], y2, 0) W
  rw [decide_eq_true rfl, Bool.not_true] at hq
  simp only [hy] at HNX
  unfold wdV at hq HNX
  simp only at hq HNX

  have HPN := Lib.hid (fun n W => pnum_any n W)
  have HAS := Lib.hid (fun W => has_any lo hi y2 W)
  rw [show (decide (lo ≤ y2) && decide (y2 ≤ hi)) = true by rw [decide_eq_true hn.1, decide_eq_true hn.2]; rfl] at HAS
  have HLE := Lib.hid h.le
  have HBW := Lib.hid (lt_of_block h.rd)
  have htk := fun V (hV : RdI V b ao bw off cap L c 0) => take_yes hV (next_lt (by rw [hy]; simp)) hy
  unfold wdV at htk
  simp only at htk
  have HTK := Lib.hid htk
  clear htk hy h hn
  go_enter Tryz.func104, Tryz.ntmps104
  go_wp2_with fail
  with_reducible refine HNX.out.mono ?_
  rintro r w1 ⟨rfl, hb1⟩
  have HX := Lib.hid (num_boxes2 (Y := .cells #[.int .i64 2, .string ⟨#[]⟩, .int .i64 y2, .int .i64 0] 72) hb1)
  have HB0 := Lib.hid ((Below.refl (w1.alloc (.cells #[.int .i64 2, .string ⟨#[]⟩, .int .i64 y2, .int .i64 0] 72)).heap.size (w1.alloc (.cells #[.int .i64 2, .string ⟨#[]⟩, .int .i64 y2, .int .i64 0] 72))).drew)
  have s0 := word_cells (HX.out _ HB0.out).1
  clear hb1
  go_wp2_with fail
  go_region_held3 (fun V => V.cell? ⟨w1.heap.size, 0, none⟩ = some (.int .i64 2) ∧ V.cell? ⟨w1.heap.size, 1, none⟩ = some (.string ⟨#[]⟩) ∧ V.cell? ⟨w1.heap.size, 2, none⟩ = some (.int .i64 y2) ∧ V.cell? ⟨w1.heap.size, 3, none⟩ = some (.int .i64 0))
    (first | exact s0 | exact s1)
    (first
      | (go_at_call 55
         with_reducible refine (HPN.out _ _).mono ?_
         rintro r V1 ⟨rfl, hb⟩
         have HV1 := Lib.hid (HB0.out.trans (hb.mono HB0.out.size))
         have s1 := word_cells (HX.out _ HV1.out).1
         clear hb))
  clear s0 s1 hq
  have hne : w1.heap.size ∉ [b] := by
    have h1 := (HX.out _ HV1.out).2.2.2
    have h2 := HBW.out
    simp
    omega
  have HNE := Lib.hid hne
  clear hne
  obtain ⟨c0, c1⟩ := two_cells (HX.out _ HV1.out).2.1
  obtain ⟨d0, d1, d2, d3⟩ := word_cells (HX.out _ HV1.out).1
  go_wp2_with fail
  with_reducible refine (HAS.out _).mono ?_
  rintro r V2 ⟨rfl, hb⟩
  have HV2 := Lib.hid (HV1.out.trans (hb.mono HV1.out.size))
  have HR2 := Lib.hid (HRD.out _ (HX.out _ HV2.out).2.2.1)
  clear hb c0 c1 d0 d1 d2 d3
  obtain ⟨d0, d1, d2, d3⟩ := word_cells (HX.out _ HV2.out).1
  go_wp2_with fail
  with_reducible refine (HTK.out _ HR2.out).mono ?_
  rintro r V4 ⟨rfl, hr, ht⟩
  have HR4 := Lib.hid hr
  have HT4 := Lib.hid ((turned_box rfl (turned_below (HX.out _ HV2.out).2.2.1 [b])).trans ht (Newer.refl _ _))
  have hw4 := ht.same (HX.out _ HV2.out).1 HNE.out
  clear hr ht d0 d1 d2 d3
  obtain ⟨d0, d1, d2, d3⟩ := word_cells hw4
  clear hw4
  go_wp2
  go_ret
  exact ⟨rfl, HR4.out, HT4.out⟩
set_option maxRecDepth 100000 in
set_option maxHeartbeats 3200000 in
theorem number_dead {w : World} {b : Nat} {ao : Option Addr} {bw off cap : Nat} {L : List Wd} {c : Nat} {e : Int} (h : RdI w b ao bw off cap L c e) (he : e ≠ 0) (lo hi y2 : Int) (hy : nextR L c = (2, [], y2, 0)) (hn : lo ≤ y2 ∧ y2 ≤ hi) :
    Calls Tryz.prog 104 #[.pointer (some ⟨b, 0, none⟩), .agg #[.int .i64 lo, .int .i64 hi]] w (NumP (rdnR L c lo hi e).1 w b ao L.length cap (rdnR L c lo hi e).2.1 (rdnR L c lo hi e).2.2) := by
  rw [num_dead he]
  simp only
  have HNX := Lib.hid (next_any (num_boxes h (.cells #[.int .i64 lo, .int .i64 hi] 100)))
  have HRD := Lib.hid (fun V (hV : Below (w.alloc (.cells #[.int .i64 lo, .int .i64 hi] 100)).heap.size (w.alloc (.cells #[.int .i64 lo, .int .i64 hi] 100)) V) => (num_boxes h (.cells #[.int .i64 lo, .int .i64 hi] 100)).below hV)
  have hq := fun W => neq_words (2, [], y2, 0) (2, [], y2, 0) W
  rw [decide_eq_true rfl, Bool.not_true] at hq
  simp only [hy] at HNX
  unfold wdV at hq HNX
  simp only at hq HNX

  have HPN := Lib.hid (fun n W => pnum_any n W)
  have HAS := Lib.hid (fun W => has_any lo hi y2 W)
  rw [show (decide (lo ≤ y2) && decide (y2 ≤ hi)) = true by rw [decide_eq_true hn.1, decide_eq_true hn.2]; rfl] at HAS
  have HLE := Lib.hid h.le
  have HBW := Lib.hid (lt_of_block h.rd)
  have htk := fun V (hV : RdI V b ao bw off cap L c e) => take_dead hV he (2, [], y2, 0)
  unfold wdV at htk
  simp only at htk
  have HTK := Lib.hid htk
  clear htk hy h hn
  go_enter Tryz.func104, Tryz.ntmps104
  go_wp2_with fail
  with_reducible refine HNX.out.mono ?_
  rintro r w1 ⟨rfl, hb1⟩
  have HX := Lib.hid (num_boxes2 (Y := .cells #[.int .i64 2, .string ⟨#[]⟩, .int .i64 y2, .int .i64 0] 72) hb1)
  have HB0 := Lib.hid ((Below.refl (w1.alloc (.cells #[.int .i64 2, .string ⟨#[]⟩, .int .i64 y2, .int .i64 0] 72)).heap.size (w1.alloc (.cells #[.int .i64 2, .string ⟨#[]⟩, .int .i64 y2, .int .i64 0] 72))).drew)
  have s0 := word_cells (HX.out _ HB0.out).1
  clear hb1
  go_wp2_with fail
  go_region_held3 (fun V => V.cell? ⟨w1.heap.size, 0, none⟩ = some (.int .i64 2) ∧ V.cell? ⟨w1.heap.size, 1, none⟩ = some (.string ⟨#[]⟩) ∧ V.cell? ⟨w1.heap.size, 2, none⟩ = some (.int .i64 y2) ∧ V.cell? ⟨w1.heap.size, 3, none⟩ = some (.int .i64 0))
    (first | exact s0 | exact s1)
    (first
      | (go_at_call 55
         with_reducible refine (HPN.out _ _).mono ?_
         rintro r V1 ⟨rfl, hb⟩
         have HV1 := Lib.hid (HB0.out.trans (hb.mono HB0.out.size))
         have s1 := word_cells (HX.out _ HV1.out).1
         clear hb))
  clear s0 s1 hq
  have hne : w1.heap.size ∉ [b] := by
    have h1 := (HX.out _ HV1.out).2.2.2
    have h2 := HBW.out
    simp
    omega
  have HNE := Lib.hid hne
  clear hne
  obtain ⟨c0, c1⟩ := two_cells (HX.out _ HV1.out).2.1
  obtain ⟨d0, d1, d2, d3⟩ := word_cells (HX.out _ HV1.out).1
  go_wp2_with fail
  with_reducible refine (HAS.out _).mono ?_
  rintro r V2 ⟨rfl, hb⟩
  have HV2 := Lib.hid (HV1.out.trans (hb.mono HV1.out.size))
  have HR2 := Lib.hid (HRD.out _ (HX.out _ HV2.out).2.2.1)
  clear hb c0 c1 d0 d1 d2 d3
  obtain ⟨d0, d1, d2, d3⟩ := word_cells (HX.out _ HV2.out).1
  go_wp2_with fail
  with_reducible refine (HTK.out _ HR2.out).mono ?_
  rintro r V4 ⟨rfl, hr, ht⟩
  have HR4 := Lib.hid hr
  have HT4 := Lib.hid ((turned_box rfl (turned_below (HX.out _ HV2.out).2.2.1 [b])).trans ht (Newer.refl _ _))
  have hw4 := ht.same (HX.out _ HV2.out).1 HNE.out
  clear hr ht d0 d1 d2 d3
  obtain ⟨d0, d1, d2, d3⟩ := word_cells hw4
  clear hw4
  go_wp2
  go_ret
  exact ⟨rfl, HR4.out, HT4.out⟩
/-- The reader's number, live or not. -/
theorem number_any {w : World} {b : Nat} {ao : Option Addr} {bw off cap : Nat} {L : List Wd} {c : Nat} {e : Int} (h : RdI w b ao bw off cap L c e) (hL : Clean L) (lo hi : Int) :
    Calls Tryz.prog 104 #[.pointer (some ⟨b, 0, none⟩), .agg #[.int .i64 lo, .int .i64 hi]] w (NumP (rdnR L c lo hi e).1 w b ao L.length cap (rdnR L c lo hi e).2.1 (rdnR L c lo hi e).2.2) := by
  by_cases hx : (nextR L c).1 = 2 ∧ (nextR L c).2.1 = []
  · obtain ⟨k, t, n, hy⟩ := next_form L c
    rw [hy] at hx
    simp only at hx
    obtain ⟨rfl, rfl⟩ := hx
    by_cases hn : lo ≤ n ∧ n ≤ hi
    · by_cases he : e = 0
      · exact number_ok h he lo hi n hy hn
      · exact number_dead h he lo hi n hy hn
    · exact number_out h lo hi n hy hn
  · exact number_no h hL lo hi hx
end Go.Proofs.YtmcfjlkjijaflaaGreatDoor

/- The program's reader: op. (Made by gen_op.py.) -/
namespace Go.Proofs.YtmcfjlkjijaflaaGreatDoor
open Go.RowKit

/-- Where need leaves it: the place, the error. -/
def needQ (L : List Wd) (c : Nat) (e : Int) (x : Wd) : Nat × Int := if e = 0 ∧ nextR L c = x then (c + 1, 0) else (c, failE e 5)
theorem needQ_le {L : List Wd} {c : Nat} {e : Int} {x : Wd} (h : c ≤ L.length) (hx : x.1 ≠ 0) : (needQ L c e x).1 ≤ L.length := by
  unfold needQ
  split
  · next hh =>
    have := next_lt (L := L) (c := c) (by rw [hh.2]; exact hx)
    exact this
  · exact h
theorem rdnR_le {L : List Wd} {c : Nat} {lo hi e : Int} (h : c ≤ L.length) : (rdnR L c lo hi e).2.1 ≤ L.length := by
  unfold rdnR
  split
  · exact h
  · split
    · next n a ha => exact arg_le ha
    · next a k ha =>
      simp only
      unfold argR at ha
      split at ha
      · split at ha
        · split at ha
          · simp only [Except.error.injEq, Prod.mk.injEq] at ha; omega
          · cases ha
        · simp only [Except.error.injEq, Prod.mk.injEq] at ha; omega
      · simp only [Except.error.injEq, Prod.mk.injEq] at ha; omega
theorem need_any {w : World} {b : Nat} {ao : Option Addr} {bw off cap : Nat} {L : List Wd} {c : Nat} {e : Int} (h : RdI w b ao bw off cap L c e) (x : Wd) (hx0 : x.1 ≠ 0 := by simp) :
    Calls Tryz.prog 103 #[.pointer (some ⟨b, 0, none⟩), wdV x] w (StepP (.tuple #[]) w b ao L.length cap (needQ L c e x).1 (needQ L c e x).2) := by
  unfold needQ
  by_cases hh : e = 0 ∧ nextR L c = x
  · rw [if_pos hh]
    obtain ⟨rfl, hx⟩ := hh
    exact need_yes h (next_lt (by rw [hx]; exact hx0)) hx
  · rw [if_neg hh]
    exact need_no h (by
      by_cases he : e = 0
      · exact .inr fun hx => hh ⟨he, hx⟩
      · exact .inl he)
theorem op_res {fn : Func} {p : Tmp} (hf : fn.results = #[.cell p 109]) {tmps : Array Value} {w : World} {B : Nat} {a b c : Value} (hp : tmps.getD p undef = .pointer (some ⟨B, 0, none⟩)) (h : w.heap[B]? = some (.cells #[a, b, c] 109 (0, 0))) :
    (results fn tmps).run Tryz.prog w = .ok (.agg #[a, b, c]) w := by
  obtain ⟨h0, h1, h2⟩ := op_cells h
  rw [results_one hf, hp]
  simp [loadVar, go_sem, h0, h1, h2]
theorem op_set {w : World} {B : Nat} {a b c a' b' c' : Value} {t : TypeId} (h : w.heap[B]? = some (.cells #[a, b, c] t (0, 0))) :
    (((w.setCell ⟨B, 0, none⟩ a').setCell ⟨B, 1, none⟩ b').setCell ⟨B, 2, none⟩ c').heap[B]? = some (.cells #[a', b', c'] t (0, 0)) := by
  rw [heap_setCell_same _ _ _ _ _ _ (heap_setCell_same _ _ _ _ _ _ (heap_setCell_same _ _ _ _ _ _ h))]
  rfl
abbrev zeroO : Obj := .cells #[.int .i64 0, .int .i64 0, .int .i64 0] 109
/-- The boxes of op: its answer's, the shape's, the op's; the reader's. -/
structure OpF (w V : World) (b S : Nat) (sh : Array Value) (k x y : Int) (rc : Array Value) : Prop where
  res : V.heap[w.heap.size]? = some zeroO
  shp : V.heap[S]? = some (.cells sh 144 (0, 0))
  opb : V.heap[S + 1]? = some (.cells #[.int .i64 k, .int .i64 x, .int .i64 y] 109 (0, 0))
  rd : V.heap[b]? = some (.cells rc 124 (0, 0))
  tur : Turned [b] w V
  bw : b < w.heap.size
  sw : w.heap.size < S
theorem OpF.step {w V V' : World} {b S : Nat} {sh : Array Value} {k x y : Int} {rc rc' : Array Value} (h : OpF w V b S sh k x y rc) (t : Turned [b] V V') (hr : V'.heap[b]? = some (.cells rc' 124 (0, 0))) : OpF w V' b S sh k x y rc' := by
  have h1 := h.bw
  have h2 := h.sw
  exact ⟨t.same h.res (by simp; omega), t.same h.shp (by simp; omega), t.same h.opb (by simp; omega), hr, h.tur.trans t (Newer.refl _ _), h1, h2⟩
theorem OpF.below {w V V' : World} {b S : Nat} {sh : Array Value} {k x y : Int} {rc : Array Value} (h : OpF w V b S sh k x y rc) (hb : Below V.heap.size V V') : OpF w V' b S sh k x y rc :=
  h.step (turned_below hb [b]) ((hb.block _ (lt_of_block h.rd)).trans h.rd)
theorem OpF.setA {w V : World} {b S : Nat} {sh : Array Value} {k x y : Int} {rc : Array Value} (h : OpF w V b S sh k x y rc) (x' : Int) : OpF w (V.setCell ⟨S + 1, 1, none⟩ (.int .i64 x')) b S sh k x' y rc := by
  have h1 := h.bw
  have h2 := h.sw
  refine ⟨(Below.heap_setCell _ _ _ _ (by show w.heap.size ≠ S + 1; omega)).trans h.res, (Below.heap_setCell _ _ _ _ (by show S ≠ S + 1; omega)).trans h.shp, ?_, (Below.heap_setCell _ _ _ _ (by show b ≠ S + 1; omega)).trans h.rd, h.tur.setCell (.inr (by show w.heap.size ≤ S + 1; omega)) _, h1, h2⟩
  rw [heap_setCell_same _ _ _ _ _ _ h.opb]
  rfl
theorem OpF.setB {w V : World} {b S : Nat} {sh : Array Value} {k x y : Int} {rc : Array Value} (h : OpF w V b S sh k x y rc) (y' : Int) : OpF w (V.setCell ⟨S + 1, 2, none⟩ (.int .i64 y')) b S sh k x y' rc := by
  have h1 := h.bw
  have h2 := h.sw
  refine ⟨(Below.heap_setCell _ _ _ _ (by show w.heap.size ≠ S + 1; omega)).trans h.res, (Below.heap_setCell _ _ _ _ (by show S ≠ S + 1; omega)).trans h.shp, ?_, (Below.heap_setCell _ _ _ _ (by show b ≠ S + 1; omega)).trans h.rd, h.tur.setCell (.inr (by show w.heap.size ≤ S + 1; omega)) _, h1, h2⟩
  rw [heap_setCell_same _ _ _ _ _ _ h.opb]
  rfl
theorem OpF.start {w w3 : World} {b : Nat} {sh : Array Value} {k : Int} {rc : Array Value} (hr : w.heap[b]? = some (.cells rc 124 (0, 0))) (h : Below (w.alloc zeroO).heap.size (w.alloc zeroO) w3) :
    OpF w ((w3.alloc (.cells sh 144)).alloc (.cells #[.int .i64 k, .int .i64 0, .int .i64 0] 109)) b w3.heap.size sh k 0 0 rc := by
  obtain ⟨h1, h2⟩ := box_kept h
  have hb := lt_of_block hr
  have hl := lt_of_block h1
  have hz := heap_alloc_new (w3.alloc (.cells sh 144)) (.cells #[.int .i64 k, .int .i64 0, .int .i64 0] 109)
  rw [World.size_alloc] at hz
  exact ⟨(Below.heap_alloc _ _ _ (by simp; omega)).trans ((Below.heap_alloc _ _ _ hl).trans h1), (Below.heap_alloc _ _ _ (by simp)).trans (heap_alloc_new _ _), hz,
    (Below.heap_alloc _ _ _ (by simp; omega)).trans ((Below.heap_alloc _ _ _ (by omega)).trans ((h2.block _ hb).trans hr)), ((turned_below h2 [b]).alloc _).alloc _, hb, hl⟩
theorem OpF.fin {w V : World} {b S : Nat} {sh : Array Value} {k x y : Int} {rc : Array Value} (h : OpF w V b S sh k x y rc) (a' b' c' : Value) :
    (((V.setCell ⟨w.heap.size, 0, none⟩ a').setCell ⟨w.heap.size, 1, none⟩ b').setCell ⟨w.heap.size, 2, none⟩ c').heap[w.heap.size]? = some (.cells #[a', b', c'] 109 (0, 0)) ∧
    (((V.setCell ⟨w.heap.size, 0, none⟩ a').setCell ⟨w.heap.size, 1, none⟩ b').setCell ⟨w.heap.size, 2, none⟩ c').heap[b]? = some (.cells rc 124 (0, 0)) ∧
    Turned [b] w (((V.setCell ⟨w.heap.size, 0, none⟩ a').setCell ⟨w.heap.size, 1, none⟩ b').setCell ⟨w.heap.size, 2, none⟩ c') := by
  have hne : b ≠ w.heap.size := by have := h.bw; omega
  refine ⟨op_set h.res, ?_, ((h.tur.setCell (.inr (Nat.le_refl _)) _).setCell (.inr (Nat.le_refl _)) _).setCell (.inr (Nat.le_refl _)) _⟩
  rw [Below.heap_setCell _ _ _ _ hne, Below.heap_setCell _ _ _ _ hne, Below.heap_setCell _ _ _ _ hne]
  exact h.rd
/-- No op begins there. -/
theorem op_none {w : World} {b : Nat} {ao : Option Addr} {bw off cap : Nat} {L : List Wd} {c : Nat} {e : Int} (h : RdI w b ao bw off cap L c e) (hk : kindQ (nextR L c) = 0) :
    Calls Tryz.prog 127 #[.pointer (some ⟨b, 0, none⟩)] w (StepP (opV (0, 0, 0)) w b ao L.length cap c (failE e 5)) := by
  have h0 := h.below ((Below.refl _ w).alloc (Nat.le_refl _) zeroO)
  have HNX := Lib.hid (next_any h0)
  have HRD := Lib.hid (fun V (hV : Below (w.alloc zeroO).heap.size (w.alloc zeroO) V) => h0.below hV)
  have HKD := Lib.hid (fun W => kindof_any (nextR L c) W)
  rw [hk] at HKD
  obtain ⟨y, hy⟩ : ∃ y, nextR L c = y := ⟨_, rfl⟩
  simp only [hy] at HNX HKD
  obtain ⟨e5, he5⟩ : ∃ e5, failE e 5 = e5 := ⟨_, rfl⟩
  have HFL := Lib.hid (fun V (hV : RdI V b ao bw off cap L c e) => fail_any hV.rd 5)
  simp only [he5] at HFL ⊢
  have HBW := Lib.hid (lt_of_block h.rd)
  obtain ⟨yv, hyv⟩ : ∃ yv, wdV y = yv := ⟨_, rfl⟩
  simp only [hyv] at HNX HKD
  clear hy hyv hk he5 h h0
  go_enter Tryz.func127, Tryz.ntmps127
  go_wp2_with fail
  with_reducible refine HNX.out.mono ?_
  rintro r w1 ⟨rfl, hb1⟩
  have HB1 := Lib.hid hb1
  clear hb1
  go_wp2_with fail
  with_reducible refine (HKD.out _).mono ?_
  rintro r w2 ⟨rfl, hb2⟩
  have HB2 := Lib.hid (HB1.out.trans (hb2.mono HB1.out.size))
  clear hb2
  go_wp2_with fail
  with_reducible refine (HFL.out _ (HRD.out _ HB2.out)).mono ?_
  rintro r w3 ⟨rfl, hr, ht⟩
  obtain ⟨hx, hb2⟩ := box_kept HB2.out
  have hne : w.heap.size ∉ [b] := by have := HBW.out; simp; omega
  have HX3 := Lib.hid (ht.same hx hne)
  have HR3 := Lib.hid hr
  have HT3 := Lib.hid ((turned_below hb2 [b]).trans ht (Newer.refl _ _))
  have hnb : b ≠ w.heap.size := by have := HBW.out; omega
  have HNB := Lib.hid hnb
  clear hr ht hx hb2 hne hnb
  obtain ⟨c0, c1, c2⟩ := op_cells HX3.out
  have f0 := not_frozen HX3.out 0
  have f1 := not_frozen HX3.out 1
  have f2 := not_frozen HX3.out 2
  go_wp2
  refine bodyPost_ret (op_res rfl rfl (op_set HX3.out)) rfl ?_
  refine ⟨rfl, ?_, ((HT3.out.setCell (.inr (Nat.le_refl _)) _).setCell (.inr (Nat.le_refl _)) _).setCell (.inr (Nat.le_refl _)) _⟩
  rw [Below.heap_setCell _ _ _ _ HNB.out, Below.heap_setCell _ _ _ _ HNB.out, Below.heap_setCell _ _ _ _ HNB.out]
  exact HR3.out
set_option maxRecDepth 100000 in
set_option maxHeartbeats 6400000 in
theorem op_n0 {w : World} {b : Nat} {ao : Option Addr} {bw off cap : Nat} {L : List Wd} {c : Nat} {e : Int} (h : RdI w b ao bw off cap L c e) {k : Nat} (hk : kindQ (nextR L c) = k) (hk0 : k ≠ 0) (hn : shN (k : Int) = 0)
    {c1 : Nat} {e1 : Int} (h1 : needQ L c e (1, nameR (k : Int), 0, 0) = (c1, e1)) {c4 : Nat} {e4 : Int} (h4 : needQ L c1 e1 (3, [59], 0, 0) = (c4, e4)) :
    Calls Tryz.prog 127 #[.pointer (some ⟨b, 0, none⟩)] w (StepP (opV ((k : Int), 0, 0)) w b ao L.length cap c4 e4) := by
  have h0 := h.below ((Below.refl _ w).alloc (Nat.le_refl _) zeroO)
  have HNX := Lib.hid (next_any h0)
  have HRT := Lib.hid (fun V c' e' (t : Turned [b] w V) hr hc => h.turned (c' := c') (e' := e') t hr hc)
  have HKD := Lib.hid (fun W => kindof_any (nextR L c) W)
  rw [hk] at HKD
  have hsh := fun W => shape_any (k : Int) W
  obtain ⟨s, n, lo, hi, lo2, hi2, es, hs, hsn, hsa, hsb⟩ := shape_let (k : Int)
  rw [hn] at hsn
  subst hsn
  simp only [es] at hsh
  have HSH := Lib.hid hsh
  have HNM := Lib.hid (fun s W => pname_any s W)
  have HMK := Lib.hid (fun s W => pmark_any s W)
  have hN1 := fun V (hV : RdI V b ao bw off cap L c e) => need_any hV (1, nameR (k : Int), 0, 0)
  have hN4 := fun V (hV : RdI V b ao bw off cap L c1 e1) => need_any hV (3, [59], 0, 0)
  have hl1 : c1 ≤ L.length := by
    have := needQ_le (e := e) (x := (1, nameR (k : Int), 0, 0)) h.le (by show (1 : Int) ≠ 0; decide)
    rw [h1] at this
    exact this
  have et : (⟨(nameR (k : Int)).toArray⟩ : ByteArray) = s := by rw [← hs, Lib.mk_data]
  unfold wdV at hN1 hN4
  simp only [h1, h4, et] at hN1 hN4
  have HN1 := Lib.hid hN1
  have HN4 := Lib.hid hN4
  obtain ⟨y, hy⟩ : ∃ y, nextR L c = y := ⟨_, rfl⟩
  simp only [hy] at HNX HKD
  obtain ⟨yv, hyv⟩ : ∃ yv, wdV y = yv := ⟨_, rfl⟩
  simp only [hyv] at HNX HKD
  have HRD := Lib.hid h.rd
  have HLE := Lib.hid h.le
  have HL1 := Lib.hid hl1
  have hkb : ((k : Int) == 0) = false := by simp; omega
  clear hy hyv hk h h0 hN1 hN4 hsh hsa hsb es hs hn h1 h4 hk0 hl1 et
  go_enter Tryz.func127, Tryz.ntmps127
  go_wp2_with fail
  with_reducible refine HNX.out.mono ?_
  rintro r w1 ⟨rfl, hb1⟩
  have HB1 := Lib.hid hb1
  clear hb1
  go_wp2_with fail
  with_reducible refine (HKD.out _).mono ?_
  rintro r w2 ⟨rfl, hb2⟩
  have HB2 := Lib.hid (HB1.out.trans (hb2.mono HB1.out.size))
  clear hb2
  go_wp2_with fail
  with_reducible refine (HSH.out _).mono ?_
  rintro r w3 ⟨rfl, hb3⟩
  have HB3 := Lib.hid (HB2.out.trans (hb3.mono HB2.out.size))
  clear hb3
  have HF := Lib.hid (OpF.start (sh := #[.string s, .int .i64 0, .int .i64 lo, .int .i64 hi, .int .i64 lo2, .int .i64 hi2]) (k := (k : Int)) HRD.out HB3.out)
  have HW5 : Hid (∃ W5, (w3.alloc (.cells #[.string s, .int .i64 0, .int .i64 lo, .int .i64 hi, .int .i64 lo2, .int .i64 hi2] 144)).alloc (.cells #[.int .i64 (k : Int), .int .i64 0, .int .i64 0] 109) = W5) := ⟨_, rfl⟩
  go_wp2_with fail
  obtain ⟨W5, hW5⟩ := HW5.out
  rw [hW5] at HF ⊢
  clear hW5 HW5
  obtain ⟨S, hS⟩ : ∃ S, w3.heap.size = S := ⟨_, rfl⟩
  rw [hS] at HF ⊢
  clear hS
  with_reducible refine (HNM.out _ _).mono ?_
  rintro r w6 ⟨rfl, hb⟩
  have HF6 := Lib.hid (HF.out.below hb)
  clear hb
  go_wp2_with fail
  with_reducible refine (HN1.out _ (HRT.out _ _ _ HF6.out.tur HF6.out.rd HLE.out)).mono ?_
  rintro r w7 ⟨rfl, hr, ht⟩
  have HF7 := Lib.hid (HF6.out.step ht hr)
  clear hr ht
  obtain ⟨d0, d1, d2, d3, d4, d5⟩ := six_cells HF7.out.shp
  obtain ⟨o0, o1, o2⟩ := op_cells HF7.out.opb
  go_wp2_with fail
  with_reducible refine (HMK.out _ _).mono ?_
  rintro r w10 ⟨rfl, hb⟩
  have HF10 := Lib.hid (HF7.out.below hb)
  clear hb d0 d1 d2 d3 d4 d5 o0 o1 o2
  go_wp2_with fail
  with_reducible refine (HN4.out _ (HRT.out _ _ _ HF10.out.tur HF10.out.rd HL1.out)).mono ?_
  rintro r w11 ⟨rfl, hr, ht⟩
  have HF11 := Lib.hid (HF10.out.step ht hr)
  clear hr ht
  obtain ⟨o0, o1, o2⟩ := op_cells HF11.out.opb
  obtain ⟨r0, r1, r2⟩ := op_cells HF11.out.res
  have f0 := not_frozen HF11.out.res 0
  have f1 := not_frozen HF11.out.res 1
  have f2 := not_frozen HF11.out.res 2
  go_wp2
  refine bodyPost_ret (op_res rfl rfl (HF11.out.fin _ _ _).1) rfl ?_
  exact ⟨rfl, (HF11.out.fin _ _ _).2.1, (HF11.out.fin _ _ _).2.2⟩
set_option maxRecDepth 100000 in
set_option maxHeartbeats 6400000 in
theorem op_n1 {w : World} {b : Nat} {ao : Option Addr} {bw off cap : Nat} {L : List Wd} {c : Nat} {e : Int} (h : RdI w b ao bw off cap L c e) (hL : Clean L) {k : Nat} (hk : kindQ (nextR L c) = k) (hk0 : k ≠ 0) (hn : shN (k : Int) = 1)
    {c1 : Nat} {e1 : Int} (h1 : needQ L c e (1, nameR (k : Int), 0, 0) = (c1, e1)) {x : Int} {c2 : Nat} {e2 : Int} (h2 : rdnR L c1 (shA (k : Int)).1 (shA (k : Int)).2 e1 = (x, c2, e2)) {c4 : Nat} {e4 : Int} (h4 : needQ L c2 e2 (3, [59], 0, 0) = (c4, e4)) :
    Calls Tryz.prog 127 #[.pointer (some ⟨b, 0, none⟩)] w (StepP (opV ((k : Int), x, 0)) w b ao L.length cap c4 e4) := by
  have h0 := h.below ((Below.refl _ w).alloc (Nat.le_refl _) zeroO)
  have HNX := Lib.hid (next_any h0)
  have HRT := Lib.hid (fun V c' e' (t : Turned [b] w V) hr hc => h.turned (c' := c') (e' := e') t hr hc)
  have HKD := Lib.hid (fun W => kindof_any (nextR L c) W)
  rw [hk] at HKD
  have hsh := fun W => shape_any (k : Int) W
  obtain ⟨s, n, lo, hi, lo2, hi2, es, hs, hsn, hsa, hsb⟩ := shape_let (k : Int)
  rw [hn] at hsn
  subst hsn
  simp only [es] at hsh
  have HSH := Lib.hid hsh
  have HNM := Lib.hid (fun s W => pname_any s W)
  have HMK := Lib.hid (fun s W => pmark_any s W)
  have hN1 := fun V (hV : RdI V b ao bw off cap L c e) => need_any hV (1, nameR (k : Int), 0, 0)
  have hN4 := fun V (hV : RdI V b ao bw off cap L c2 e2) => need_any hV (3, [59], 0, 0)
  have hl1 : c1 ≤ L.length := by
    have := needQ_le (e := e) (x := (1, nameR (k : Int), 0, 0)) h.le (by show (1 : Int) ≠ 0; decide)
    rw [h1] at this
    exact this
  have hl8 : c2 ≤ L.length := by
    have := rdnR_le (lo := (shA (k : Int)).1) (hi := (shA (k : Int)).2) (e := e1) hl1
    rw [h2] at this
    exact this
  have HL8 := Lib.hid hl8
  have et : (⟨(nameR (k : Int)).toArray⟩ : ByteArray) = s := by rw [← hs, Lib.mk_data]
  unfold wdV at hN1 hN4
  simp only [h1, h4, et] at hN1 hN4
  have HN1 := Lib.hid hN1
  have HN4 := Lib.hid hN4
  have hNA := fun V (hV : RdI V b ao bw off cap L c1 e1) => number_any hV hL (shA (k : Int)).1 (shA (k : Int)).2
  simp only [hsa] at h2 hNA
  simp only [h2] at hNA
  have HNA := Lib.hid hNA
  clear hNA
  obtain ⟨y, hy⟩ : ∃ y, nextR L c = y := ⟨_, rfl⟩
  simp only [hy] at HNX HKD
  obtain ⟨yv, hyv⟩ : ∃ yv, wdV y = yv := ⟨_, rfl⟩
  simp only [hyv] at HNX HKD
  have HRD := Lib.hid h.rd
  have HLE := Lib.hid h.le
  have HL1 := Lib.hid hl1
  have hkb : ((k : Int) == 0) = false := by simp; omega
  clear hy hyv hk h h0 hN1 hN4 hsh hsa hsb es hs hn h1 h4 hL hk0 hl1 et h2 hl8
  go_enter Tryz.func127, Tryz.ntmps127
  go_wp2_with fail
  with_reducible refine HNX.out.mono ?_
  rintro r w1 ⟨rfl, hb1⟩
  have HB1 := Lib.hid hb1
  clear hb1
  go_wp2_with fail
  with_reducible refine (HKD.out _).mono ?_
  rintro r w2 ⟨rfl, hb2⟩
  have HB2 := Lib.hid (HB1.out.trans (hb2.mono HB1.out.size))
  clear hb2
  go_wp2_with fail
  with_reducible refine (HSH.out _).mono ?_
  rintro r w3 ⟨rfl, hb3⟩
  have HB3 := Lib.hid (HB2.out.trans (hb3.mono HB2.out.size))
  clear hb3
  have HF := Lib.hid (OpF.start (sh := #[.string s, .int .i64 1, .int .i64 lo, .int .i64 hi, .int .i64 lo2, .int .i64 hi2]) (k := (k : Int)) HRD.out HB3.out)
  have HW5 : Hid (∃ W5, (w3.alloc (.cells #[.string s, .int .i64 1, .int .i64 lo, .int .i64 hi, .int .i64 lo2, .int .i64 hi2] 144)).alloc (.cells #[.int .i64 (k : Int), .int .i64 0, .int .i64 0] 109) = W5) := ⟨_, rfl⟩
  go_wp2_with fail
  obtain ⟨W5, hW5⟩ := HW5.out
  rw [hW5] at HF ⊢
  clear hW5 HW5
  obtain ⟨S, hS⟩ : ∃ S, w3.heap.size = S := ⟨_, rfl⟩
  rw [hS] at HF ⊢
  clear hS
  with_reducible refine (HNM.out _ _).mono ?_
  rintro r w6 ⟨rfl, hb⟩
  have HF6 := Lib.hid (HF.out.below hb)
  clear hb
  go_wp2_with fail
  with_reducible refine (HN1.out _ (HRT.out _ _ _ HF6.out.tur HF6.out.rd HLE.out)).mono ?_
  rintro r w7 ⟨rfl, hr, ht⟩
  have HF7 := Lib.hid (HF6.out.step ht hr)
  clear hr ht
  obtain ⟨d0, d1, d2, d3, d4, d5⟩ := six_cells HF7.out.shp
  obtain ⟨o0, o1, o2⟩ := op_cells HF7.out.opb
  have fo1 := not_frozen HF7.out.opb 1
  go_wp2_with fail
  with_reducible refine (HNA.out _ (HRT.out _ _ _ HF7.out.tur HF7.out.rd HL1.out)).mono ?_
  rintro r w8 ⟨rfl, hr, ht⟩
  have hf := HF7.out.step ht hr
  have HF8 := Lib.hid (hf.setA x)
  clear hr ht d0 d1 d2 d3 d4 d5 o0 o1 o2 fo1
  obtain ⟨d0, d1, d2, d3, d4, d5⟩ := six_cells hf.shp
  obtain ⟨o0, o1, o2⟩ := op_cells hf.opb
  have fo1 := not_frozen hf.opb 1
  have HW9 : Hid (∃ W9, w8.setCell ⟨S + 1, 1, none⟩ (.int .i64 x) = W9) := ⟨_, rfl⟩
  clear hf
  go_wp2_with fail
  obtain ⟨W9, hW9⟩ := HW9.out
  rw [hW9] at HF8 ⊢
  clear hW9 HW9 d0 d1 d2 d3 d4 d5 o0 o1 o2 fo1
  obtain ⟨d0, d1, d2, d3, d4, d5⟩ := six_cells HF8.out.shp
  obtain ⟨o0, o1, o2⟩ := op_cells HF8.out.opb
  go_wp2_with fail
  with_reducible refine (HMK.out _ _).mono ?_
  rintro r w10 ⟨rfl, hb⟩
  have HF10 := Lib.hid (HF8.out.below hb)
  clear hb d0 d1 d2 d3 d4 d5 o0 o1 o2
  go_wp2_with fail
  with_reducible refine (HN4.out _ (HRT.out _ _ _ HF10.out.tur HF10.out.rd HL8.out)).mono ?_
  rintro r w11 ⟨rfl, hr, ht⟩
  have HF11 := Lib.hid (HF10.out.step ht hr)
  clear hr ht
  obtain ⟨o0, o1, o2⟩ := op_cells HF11.out.opb
  obtain ⟨r0, r1, r2⟩ := op_cells HF11.out.res
  have f0 := not_frozen HF11.out.res 0
  have f1 := not_frozen HF11.out.res 1
  have f2 := not_frozen HF11.out.res 2
  go_wp2
  refine bodyPost_ret (op_res rfl rfl (HF11.out.fin _ _ _).1) rfl ?_
  exact ⟨rfl, (HF11.out.fin _ _ _).2.1, (HF11.out.fin _ _ _).2.2⟩
set_option maxRecDepth 100000 in
set_option maxHeartbeats 6400000 in
theorem op_n2 {w : World} {b : Nat} {ao : Option Addr} {bw off cap : Nat} {L : List Wd} {c : Nat} {e : Int} (h : RdI w b ao bw off cap L c e) (hL : Clean L) {k : Nat} (hk : kindQ (nextR L c) = k) (hk0 : k ≠ 0) (hn : shN (k : Int) = 2)
    {c1 : Nat} {e1 : Int} (h1 : needQ L c e (1, nameR (k : Int), 0, 0) = (c1, e1)) {x : Int} {c2 : Nat} {e2 : Int} (h2 : rdnR L c1 (shA (k : Int)).1 (shA (k : Int)).2 e1 = (x, c2, e2)) {yy : Int} {c3 : Nat} {e3 : Int} (h3 : rdnR L c2 (shB (k : Int)).1 (shB (k : Int)).2 e2 = (yy, c3, e3)) {c4 : Nat} {e4 : Int} (h4 : needQ L c3 e3 (3, [59], 0, 0) = (c4, e4)) :
    Calls Tryz.prog 127 #[.pointer (some ⟨b, 0, none⟩)] w (StepP (opV ((k : Int), x, yy)) w b ao L.length cap c4 e4) := by
  have h0 := h.below ((Below.refl _ w).alloc (Nat.le_refl _) zeroO)
  have HNX := Lib.hid (next_any h0)
  have HRT := Lib.hid (fun V c' e' (t : Turned [b] w V) hr hc => h.turned (c' := c') (e' := e') t hr hc)
  have HKD := Lib.hid (fun W => kindof_any (nextR L c) W)
  rw [hk] at HKD
  have hsh := fun W => shape_any (k : Int) W
  obtain ⟨s, n, lo, hi, lo2, hi2, es, hs, hsn, hsa, hsb⟩ := shape_let (k : Int)
  rw [hn] at hsn
  subst hsn
  simp only [es] at hsh
  have HSH := Lib.hid hsh
  have HNM := Lib.hid (fun s W => pname_any s W)
  have HMK := Lib.hid (fun s W => pmark_any s W)
  have hN1 := fun V (hV : RdI V b ao bw off cap L c e) => need_any hV (1, nameR (k : Int), 0, 0)
  have hN4 := fun V (hV : RdI V b ao bw off cap L c3 e3) => need_any hV (3, [59], 0, 0)
  have hl1 : c1 ≤ L.length := by
    have := needQ_le (e := e) (x := (1, nameR (k : Int), 0, 0)) h.le (by show (1 : Int) ≠ 0; decide)
    rw [h1] at this
    exact this
  have hl8 : c2 ≤ L.length := by
    have := rdnR_le (lo := (shA (k : Int)).1) (hi := (shA (k : Int)).2) (e := e1) hl1
    rw [h2] at this
    exact this
  have HL8 := Lib.hid hl8
  have hl9 : c3 ≤ L.length := by
    have := rdnR_le (lo := (shB (k : Int)).1) (hi := (shB (k : Int)).2) (e := e2) hl8
    rw [h3] at this
    exact this
  have HL9 := Lib.hid hl9
  have et : (⟨(nameR (k : Int)).toArray⟩ : ByteArray) = s := by rw [← hs, Lib.mk_data]
  unfold wdV at hN1 hN4
  simp only [h1, h4, et] at hN1 hN4
  have HN1 := Lib.hid hN1
  have HN4 := Lib.hid hN4
  have hNA := fun V (hV : RdI V b ao bw off cap L c1 e1) => number_any hV hL (shA (k : Int)).1 (shA (k : Int)).2
  simp only [hsa] at h2 hNA
  simp only [h2] at hNA
  have HNA := Lib.hid hNA
  clear hNA
  have hNB := fun V (hV : RdI V b ao bw off cap L c2 e2) => number_any hV hL (shB (k : Int)).1 (shB (k : Int)).2
  simp only [hsb] at h3 hNB
  simp only [h3] at hNB
  have HNB := Lib.hid hNB
  clear hNB
  obtain ⟨y, hy⟩ : ∃ y, nextR L c = y := ⟨_, rfl⟩
  simp only [hy] at HNX HKD
  obtain ⟨yv, hyv⟩ : ∃ yv, wdV y = yv := ⟨_, rfl⟩
  simp only [hyv] at HNX HKD
  have HRD := Lib.hid h.rd
  have HLE := Lib.hid h.le
  have HL1 := Lib.hid hl1
  have hkb : ((k : Int) == 0) = false := by simp; omega
  clear hy hyv hk h h0 hN1 hN4 hsh hsa hsb es hs hn h1 h4 hL hk0 hl1 et h2 h3 hl8 hl9
  go_enter Tryz.func127, Tryz.ntmps127
  go_wp2_with fail
  with_reducible refine HNX.out.mono ?_
  rintro r w1 ⟨rfl, hb1⟩
  have HB1 := Lib.hid hb1
  clear hb1
  go_wp2_with fail
  with_reducible refine (HKD.out _).mono ?_
  rintro r w2 ⟨rfl, hb2⟩
  have HB2 := Lib.hid (HB1.out.trans (hb2.mono HB1.out.size))
  clear hb2
  go_wp2_with fail
  with_reducible refine (HSH.out _).mono ?_
  rintro r w3 ⟨rfl, hb3⟩
  have HB3 := Lib.hid (HB2.out.trans (hb3.mono HB2.out.size))
  clear hb3
  have HF := Lib.hid (OpF.start (sh := #[.string s, .int .i64 2, .int .i64 lo, .int .i64 hi, .int .i64 lo2, .int .i64 hi2]) (k := (k : Int)) HRD.out HB3.out)
  have HW5 : Hid (∃ W5, (w3.alloc (.cells #[.string s, .int .i64 2, .int .i64 lo, .int .i64 hi, .int .i64 lo2, .int .i64 hi2] 144)).alloc (.cells #[.int .i64 (k : Int), .int .i64 0, .int .i64 0] 109) = W5) := ⟨_, rfl⟩
  go_wp2_with fail
  obtain ⟨W5, hW5⟩ := HW5.out
  rw [hW5] at HF ⊢
  clear hW5 HW5
  obtain ⟨S, hS⟩ : ∃ S, w3.heap.size = S := ⟨_, rfl⟩
  rw [hS] at HF ⊢
  clear hS
  with_reducible refine (HNM.out _ _).mono ?_
  rintro r w6 ⟨rfl, hb⟩
  have HF6 := Lib.hid (HF.out.below hb)
  clear hb
  go_wp2_with fail
  with_reducible refine (HN1.out _ (HRT.out _ _ _ HF6.out.tur HF6.out.rd HLE.out)).mono ?_
  rintro r w7 ⟨rfl, hr, ht⟩
  have HF7 := Lib.hid (HF6.out.step ht hr)
  clear hr ht
  obtain ⟨d0, d1, d2, d3, d4, d5⟩ := six_cells HF7.out.shp
  obtain ⟨o0, o1, o2⟩ := op_cells HF7.out.opb
  have fo1 := not_frozen HF7.out.opb 1
  go_wp2_with fail
  with_reducible refine (HNA.out _ (HRT.out _ _ _ HF7.out.tur HF7.out.rd HL1.out)).mono ?_
  rintro r w8 ⟨rfl, hr, ht⟩
  have hf := HF7.out.step ht hr
  have HF8 := Lib.hid (hf.setA x)
  clear hr ht d0 d1 d2 d3 d4 d5 o0 o1 o2 fo1
  obtain ⟨d0, d1, d2, d3, d4, d5⟩ := six_cells hf.shp
  obtain ⟨o0, o1, o2⟩ := op_cells hf.opb
  have fo1 := not_frozen hf.opb 1
  have HW9 : Hid (∃ W9, w8.setCell ⟨S + 1, 1, none⟩ (.int .i64 x) = W9) := ⟨_, rfl⟩
  clear hf
  go_wp2_with fail
  obtain ⟨W9, hW9⟩ := HW9.out
  rw [hW9] at HF8 ⊢
  clear hW9 HW9 d0 d1 d2 d3 d4 d5 o0 o1 o2 fo1
  obtain ⟨d0, d1, d2, d3, d4, d5⟩ := six_cells HF8.out.shp
  obtain ⟨o0, o1, o2⟩ := op_cells HF8.out.opb
  have fo2 := not_frozen HF8.out.opb 2
  go_wp2_with fail
  with_reducible refine (HNB.out _ (HRT.out _ _ _ HF8.out.tur HF8.out.rd HL8.out)).mono ?_
  rintro r w9 ⟨rfl, hr, ht⟩
  have hf := HF8.out.step ht hr
  have HF9 := Lib.hid (hf.setB yy)
  clear hr ht d0 d1 d2 d3 d4 d5 o0 o1 o2 fo2
  obtain ⟨d0, d1, d2, d3, d4, d5⟩ := six_cells hf.shp
  obtain ⟨o0, o1, o2⟩ := op_cells hf.opb
  have fo2 := not_frozen hf.opb 2
  have HW9 : Hid (∃ W9, w9.setCell ⟨S + 1, 2, none⟩ (.int .i64 yy) = W9) := ⟨_, rfl⟩
  clear hf
  go_wp2_with fail
  obtain ⟨W10, hW10⟩ := HW9.out
  rw [hW10] at HF9 ⊢
  clear hW10 HW9 d0 d1 d2 d3 d4 d5 o0 o1 o2 fo2
  obtain ⟨d0, d1, d2, d3, d4, d5⟩ := six_cells HF9.out.shp
  obtain ⟨o0, o1, o2⟩ := op_cells HF9.out.opb
  go_wp2_with fail
  with_reducible refine (HMK.out _ _).mono ?_
  rintro r w10 ⟨rfl, hb⟩
  have HF10 := Lib.hid (HF9.out.below hb)
  clear hb d0 d1 d2 d3 d4 d5 o0 o1 o2
  go_wp2_with fail
  with_reducible refine (HN4.out _ (HRT.out _ _ _ HF10.out.tur HF10.out.rd HL9.out)).mono ?_
  rintro r w11 ⟨rfl, hr, ht⟩
  have HF11 := Lib.hid (HF10.out.step ht hr)
  clear hr ht
  obtain ⟨o0, o1, o2⟩ := op_cells HF11.out.opb
  obtain ⟨r0, r1, r2⟩ := op_cells HF11.out.res
  have f0 := not_frozen HF11.out.res 0
  have f1 := not_frozen HF11.out.res 1
  have f2 := not_frozen HF11.out.res 2
  go_wp2
  refine bodyPost_ret (op_res rfl rfl (HF11.out.fin _ _ _).1) rfl ?_
  exact ⟨rfl, (HF11.out.fin _ _ _).2.1, (HF11.out.fin _ _ _).2.2⟩
end Go.Proofs.YtmcfjlkjijaflaaGreatDoor

/- The program's reader, plainly: what op and ops come to; op of any words. -/
namespace Go.Proofs.YtmcfjlkjijaflaaGreatDoor
open Go.RowKit

theorem is_next {L : List Wd} (hL : Clean L) {c : Nat} {k : Int} {t : List By} (hk : k = 1 ∨ k = 3) : isR L c k t = decide (nextR L c = (k, t, 0, 0)) := by
  by_cases hc : c < L.length
  · rw [next_at hc]
    unfold isR
    rw [List.getElem?_eq_getElem hc]
    have hcl := (hL _ (List.getElem_mem hc)).1
    obtain ⟨⟨a, b, m, p⟩, hx⟩ : ∃ x, L[c] = x := ⟨_, rfl⟩
    rw [hx] at hcl ⊢
    simp only at hcl ⊢
    rw [Bool.eq_iff_iff]
    simp only [Bool.and_eq_true, decide_eq_true_eq, Prod.mk.injEq, and_true]
    constructor
    · rintro ⟨rfl, rfl⟩
      exact ⟨rfl, rfl, hcl (by omega)⟩
    · rintro ⟨h1, h2, _⟩
      exact ⟨h1, h2⟩
  · rw [next_end (by omega), is_empty (by omega)]
    symm
    simp only [decide_eq_false_iff_not, Prod.mk.injEq]
    rintro ⟨h, _⟩
    omega
theorem kind_not {L : List Wd} {c : Nat} (h : ∀ t, isR L c 1 t = false) : ∀ n, kindUp L c n = 0
  | 0 => rfl
  | n + 1 => by rw [kindUp, h, if_neg (by simp)]; exact kind_not h n
theorem kind_next {L : List Wd} (hL : Clean L) (c : Nat) : kindR L c = kindQ (nextR L c) := by
  unfold kindR
  by_cases hc : c < L.length
  · have hd : L.drop c = L[c] :: L.drop (c + 1) := List.drop_eq_getElem_cons hc
    rw [next_at hc]
    have hcl := (hL _ (List.getElem_mem hc)).1
    unfold kindQ
    simp only
    by_cases h1 : L[c].1 = 1
    · rw [kind_at hd h1, if_pos ⟨h1, hcl (by omega), trivial⟩]
    · rw [if_neg (fun h => h1 h.1), kind_not]
      intro t
      rw [is_at hd]
      simp [h1]
  · rw [next_end (by omega)]
    rw [kind_not (fun t => is_empty (by omega))]
    rfl
def opQ (L : List Wd) (c : Nat) (e : Int) : Opn × Nat × Int :=
  if kindQ (nextR L c) = 0 then ((0, 0, 0), c, failE e 5) else
    let k : Int := (kindQ (nextR L c) : Nat)
    let r1 := needQ L c e (1, nameR k, 0, 0)
    let r2 : Int × Nat × Int := if 1 ≤ shN k then rdnR L r1.1 (shA k).1 (shA k).2 r1.2 else (0, r1.1, r1.2)
    let r3 : Int × Nat × Int := if 2 ≤ shN k then rdnR L r2.2.1 (shB k).1 (shB k).2 r2.2.2 else (0, r2.2.1, r2.2.2)
    let r4 := needQ L r3.2.1 r3.2.2 (3, [59], 0, 0)
    ((k, r2.1, r3.1), r4.1, r4.2)
theorem shN_is (k : Int) : shN k = 0 ∨ shN k = 1 ∨ shN k = 2 := by
  unfold shN
  split
  · split
    · exact .inr (.inr rfl)
    · exact .inr (.inl rfl)
  · exact .inl rfl
/-- The reader's op, at any word. -/
theorem op_any {w : World} {b : Nat} {ao : Option Addr} {bw off cap : Nat} {L : List Wd} {c : Nat} {e : Int} (h : RdI w b ao bw off cap L c e) (hL : Clean L) :
    Calls Tryz.prog 127 #[.pointer (some ⟨b, 0, none⟩)] w (StepP (opV (opQ L c e).1) w b ao L.length cap (opQ L c e).2.1 (opQ L c e).2.2) := by
  unfold opQ
  by_cases hk : kindQ (nextR L c) = 0
  · rw [if_pos hk]
    exact op_none h hk
  · rw [if_neg hk]
    simp only
    rcases shN_is ((kindQ (nextR L c) : Nat) : Int) with hn | hn | hn
    · rw [if_neg (by omega), if_neg (by omega)]
      exact op_n0 h rfl hk hn rfl rfl
    · rw [if_pos (by omega), if_neg (by omega)]
      exact op_n1 h hL rfl hk hn rfl rfl rfl
    · rw [if_pos (by omega), if_pos (by omega)]
      exact op_n2 h hL rfl hk hn rfl rfl rfl rfl
theorem need_dead {L : List Wd} {c : Nat} {e : Int} {x : Wd} (he : e ≠ 0) : needQ L c e x = (c, e) := by
  unfold needQ failE
  rw [if_neg (fun h => he h.1), if_neg he]
theorem opQ_dead {L : List Wd} {c : Nat} {e : Int} (he : e ≠ 0) : (opQ L c e).2 = (c, e) := by
  unfold opQ
  split
  · unfold failE
    rw [if_neg he]
  · simp only [need_dead he]
    split <;> split <;> simp only [num_dead he, need_dead he]
theorem need_live {L : List Wd} {c : Nat} {x : Wd} : needQ L c 0 x = if nextR L c = x then (c + 1, 0) else (c, 5) := by
  unfold needQ failE
  by_cases h : nextR L c = x
  · rw [if_pos ⟨rfl, h⟩, if_pos h]
  · rw [if_neg (fun hh => h hh.2), if_neg h, if_pos rfl]
theorem kindQ_next {L : List Wd} {c k : Nat} (h : kindQ (nextR L c) = k) (hk : k ≠ 0) : nextR L c = (1, nameR (k : Int), 0, 0) := by
  refine Decidable.byContradiction fun hne => ?_
  have hall : ∀ j : Nat, 1 ≤ j → j < 12 → nextR L c ≠ (1, nameR (j : Int), 0, 0) := by
    intro j h1 h2 he
    have h3 := kindQ_hit h1 (by omega) he
    rw [h] at h3
    subst h3
    exact hne he
  exact hk (h ▸ kindQ_miss hall)
/-- An op, live: what the document's op is. -/
theorem opQ_live {L : List Wd} (hL : Clean L) {c k : Nat} (h : kindQ (nextR L c) = k) (hk : k ≠ 0) :
    match opR L (c + 1) (k : Int) with
    | .ok (o, a) => opQ L c 0 = (o, a, 0)
    | .error (a, x) => (opQ L c 0).2 = (a, x) ∧ x ≠ 0 := by
  have hx := kindQ_next h hk
  have e1 : needQ L c 0 (1, nameR (k : Int), 0, 0) = (c + 1, 0) := by rw [need_live, if_pos hx]
  have hkk : (k : Int) = 5 → shN (k : Int) = 2 ∧ shB (k : Int) = (1, 64) := by
    intro h5
    rw [h5]
    exact ⟨rfl, rfl⟩
  -- the first number
  have ha : (if 1 ≤ shN (k : Int) then rdnR L (c + 1) (shA (k : Int)).1 (shA (k : Int)).2 0 else (0, c + 1, 0)) =
      match arg1R L (c + 1) (k : Int) with
      | .ok (x, a) => (x, a, 0)
      | .error (a, x) => (0, a, x) := by
    by_cases hl : 0 ≤ (limR (k : Int)).1
    · have q1 : 1 ≤ shN (k : Int) := by
        unfold shN
        rw [if_pos hl]
        split <;> decide
      have q2 : shA (k : Int) = limR (k : Int) := by
        unfold shA
        rw [if_pos hl]
      rw [if_pos q1, q2]
      unfold arg1R
      rw [if_neg (by omega)]
      unfold rdnR
      rw [if_neg (by simp)]
      all_goals (cases argR L (c + 1) (limR (k : Int)).1 (limR (k : Int)).2 <;> rfl)
    · have q1 : ¬ 1 ≤ shN (k : Int) := by
        unfold shN
        rw [if_neg hl]
        decide
      rw [if_neg q1]
      unfold arg1R
      rw [if_pos (by omega)]
  have hb : ∀ a1 : Nat, (if 2 ≤ shN (k : Int) then rdnR L a1 (shB (k : Int)).1 (shB (k : Int)).2 0 else (0, a1, 0)) =
      match arg2R L a1 (k : Int) with
      | .ok (x, a) => (x, a, 0)
      | .error (a, x) => (0, a, x) := by
    intro a1
    unfold arg2R
    by_cases h5 : (k : Int) = 5
    · obtain ⟨q1, q2⟩ := hkk h5
      rw [if_pos h5, q1, q2, if_pos (by decide)]
      unfold rdnR
      rw [if_neg (by simp)]
      all_goals (cases argR L a1 1 64 <;> rfl)
    · have q : ¬ 2 ≤ shN (k : Int) := by
        unfold shN
        split <;> first | decide | (rw [if_neg h5]; decide)
      rw [if_neg h5, if_neg q]
  unfold opQ
  simp only [h]
  rw [if_neg hk]
  simp only [e1, ha]
  cases h1 : arg1R L (c + 1) (k : Int) with
  | error ee =>
    obtain ⟨a, x⟩ := ee
    have hx0 : x ≠ 0 := by
      have := op_bad (op_arg1 h1)
      simp only at this
      omega
    rw [op_arg1 h1]
    simp only
    refine ⟨?_, hx0⟩
    split <;> simp only [num_dead hx0, need_dead hx0]
  | ok xx =>
    obtain ⟨x, a1⟩ := xx
    simp only [hb]
    cases h2 : arg2R L a1 (k : Int) with
    | error ee =>
      obtain ⟨a, y⟩ := ee
      have hy0 : y ≠ 0 := by
        have := op_bad (op_arg2 h1 h2)
        simp only at this
        omega
      rw [op_arg2 h1 h2]
      simp only
      refine ⟨?_, hy0⟩
      simp only [need_dead hy0]
    | ok yy =>
      obtain ⟨y, a2⟩ := yy
      simp only [need_live]
      cases h3 : isR L a2 3 [59] with
      | false =>
        rw [op_semi h1 h2 h3]
        simp only
        rw [is_next hL (.inr rfl), decide_eq_false_iff_not] at h3
        rw [if_neg h3]
        exact ⟨rfl, by decide⟩
      | true =>
        rw [op_done h1 h2 h3]
        simp only
        rw [is_next hL (.inr rfl), decide_eq_true_eq] at h3
        rw [if_pos h3]
/-- How far ops has come: live, or dead. -/
def OpsI (L : List Wd) (A : Except Bad (List Opn × Nat)) (c : Nat) (e : Int) (ops : List Opn) : Prop :=
  (e = 0 ∧ ops.length ≤ 12 ∧ A = opsR L (13 - ops.length) c ops) ∨ (e ≠ 0 ∧ ops.length ≤ 13 ∧ A = .error (c, e))
theorem OpsI.start (L : List Wd) (c : Nat) : OpsI L (opsR L 13 c []) c 0 [] := .inl ⟨rfl, Nat.zero_le _, rfl⟩
theorem OpsI.step {L : List Wd} (hL : Clean L) {A : Except Bad (List Opn × Nat)} {c : Nat} {ops : List Opn} (h : OpsI L A c 0 ops) (hn : nextR L c ≠ (3, [125], 0, 0)) {e1 : Int}
    (he : e1 = if ops.length = 12 ∧ kindQ (nextR L c) ≠ 0 then 6 else 0) : OpsI L A (opQ L c e1).2.1 (opQ L c e1).2.2 (ops ++ [(opQ L c e1).1]) := by
  rcases h with ⟨_, hl, hA⟩ | ⟨hh, _⟩
  case inr => exact absurd rfl hh
  have h125 : isR L c 3 [125] = false := by rw [is_next hL (.inr rfl)]; simpa using hn
  have hkn := kind_next hL c
  by_cases hk : kindQ (nextR L c) = 0
  · rw [if_neg (fun h => h.2 hk)] at he
    subst he
    have eq : opQ L c 0 = ((0, 0, 0), c, 5) := by
      unfold opQ failE
      rw [if_pos hk, if_pos rfl]
    rw [eq]
    exact .inr ⟨by simp, by simp; omega, by rw [hA, ops_none hl h125 (by rw [hkn]; exact hk)]⟩
  · by_cases h12 : ops.length = 12
    · rw [if_pos ⟨h12, hk⟩] at he
      subst he
      rw [opQ_dead (by decide)]
      exact .inr ⟨by simp, by simp; omega, by rw [hA, ops_long h12 h125 (by rw [hkn]; exact hk)]⟩
    · rw [if_neg (fun h => h12 h.1)] at he
      subst he
      have hl' : ops.length < 12 := by omega
      have hkr : ¬ kindR L c = 0 := by rw [hkn]; exact hk
      have hlive := opQ_live hL (c := c) rfl hk
      rw [← hkn] at hlive
      cases ho : opR L (c + 1) ((kindR L c : Nat) : Int) with
      | error ee =>
        obtain ⟨a, x⟩ := ee
        rw [ho] at hlive
        simp only at hlive
        rw [hlive.1]
        exact .inr ⟨hlive.2, by simp; omega, by rw [hA, ops_fail hl' h125 hkr ho]⟩
      | ok oo =>
        obtain ⟨o, a⟩ := oo
        rw [ho] at hlive
        simp only at hlive
        rw [hlive]
        exact .inl ⟨rfl, by simp; omega, by rw [hA, ops_more hl' h125 hkr ho]⟩
theorem opQ_le {L : List Wd} {c : Nat} {e : Int} (h : c ≤ L.length) : (opQ L c e).2.1 ≤ L.length := by
  unfold opQ
  split
  · exact h
  · simp only
    have h1 := needQ_le (e := e) (x := (1, nameR ((kindQ (nextR L c) : Nat) : Int), 0, 0)) h (by show (1 : Int) ≠ 0; decide)
    refine needQ_le ?_ (by show (3 : Int) ≠ 0; decide)
    split <;> split <;> first | exact h1 | exact rdnR_le h1 | exact rdnR_le (rdnR_le h1)
/-- What ops comes to, behind its loop. -/
theorem OpsI.last {L : List Wd} (hL : Clean L) {A : Except Bad (List Opn × Nat)} {c : Nat} {ops : List Opn} (h : OpsI L A c 0 ops) (hn : nextR L c = (3, [125], 0, 0)) :
    A = if ops = [] then .error (c, 4) else .ok (ops, c + 1) := by
  rcases h with ⟨_, hl, hA⟩ | ⟨hh, _⟩
  case inr => exact absurd rfl hh
  have h125 : isR L c 3 [125] = true := by rw [is_next hL (.inr rfl), decide_eq_true_eq]; exact hn
  rw [hA, ops_end hl h125]
end Go.Proofs.YtmcfjlkjijaflaaGreatDoor
