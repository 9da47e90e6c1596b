/-
  awake.
-/
import Derived.Test.YtmcfjlkjijaflaaCrLong
import Derived.Test.YtmcfjlkjijaflaaCrChk
namespace Go.Proofs.Ytmcfjlkjijaflaa
open Go.RowKit Go.Maps Go.Shelf
attribute [local go_sem] Oper.semAt_some

abbrev awL : List Opn := [(2, 0, 0), (1, 2, 0), (6, 0, 0)]
theorem aw_secs : secsR awL = [(0, 2, 0, 2)] := by decide +kernel
theorem aw_long : (longR 0 (secsR awL)).1 = 2 := by rw [aw_secs]; decide +kernel
theorem aw_may : mayR (false, awL) = true := by decide +kernel
theorem aw_ops : ∀ o ∈ awL, opMay o = true := by decide +kernel
theorem aw_ok : checkR (false, awL) [(false, 0, 2, 0, 0)] 1 = (0, 0) := by decide +kernel
theorem aw_crit : checkR (false, awL) [(false, 0, 1, 0, 0)] 1 = (0, 13) := by decide +kernel
theorem aw_pre {pre : List Sec} {x : Sec} (h : (pre ++ [x]) <+: secsR awL) : pre = [] ∧ x = (0, 2, 0, 2) := by
  rw [aw_secs] at h
  have h1 := h.length_le
  have h2 := List.prefix_iff_eq_take.1 h
  simp only [List.length_append, List.length_cons, List.length_nil] at h1 h2
  match pre, h1, h2 with
  | [], _, h2 => simp at h2; exact ⟨rfl, h2⟩
  | _ :: _, h1, _ => simp at h1
/-- The ops' row, the program's box. -/
structure AwP (w W : World) : Prop where
  row : W.heap[w.heap.size]? = some (.cells #[.int .i64 2, .int .i64 0, .int .i64 0, .int .i64 1, .int .i64 2, .int .i64 0, .int .i64 6, .int .i64 0, .int .i64 0] 38 (0, 0))
  box : W.heap[w.heap.size + 1]? = some (.cells #[.bool false, .slice (some ⟨w.heap.size, 0, none⟩) 3 3] 24 (0, 0))
  t : Turned [] w W
theorem AwP.below {w W W' : World} (h : AwP w W) (hb : Below W.heap.size W W') : AwP w W' :=
  ⟨(hb.block _ (lt_of_block h.row)).trans h.row, (hb.block _ (lt_of_block h.box)).trans h.box, h.t.trans (turned_below0 hb) (Newer.refl _ _)⟩
theorem AwP.mild {w W W' : World} {N : Nat} (h : AwP w W) (mm : Mild [] N W W') (hN : w.heap.size ≤ N) : AwP w W' :=
  ⟨mm.cells h.row (by simp), mm.cells h.box (by simp), h.t.mild mm hN (by simp)⟩
theorem AwP.oarg {w W : World} (h : AwP w W) : OArg W (some ⟨w.heap.size, 0, none⟩) w.heap.size 0 awL := by
  refine ⟨fun _ => ⟨rfl, lt_of_block h.row⟩, fun i hi => ?_⟩
  have hi3 : i < 3 := hi
  match i, hi3 with
  | 0, _ => simp [World.cell?, h.row]
  | 1, _ => simp [World.cell?, h.row]
  | 2, _ => simp [World.cell?, h.row]
theorem AwP.bel {w W : World} (h : AwP w W) : Below w.heap.size w W := h.t.below (by simp) (Nat.le_refl _)
theorem awp_start (w : World) : AwP w ((w.alloc (.cells #[.int .i64 2, .int .i64 0, .int .i64 0, .int .i64 1, .int .i64 2, .int .i64 0, .int .i64 6, .int .i64 0, .int .i64 0] 38)).alloc (.cells #[.bool false, .slice (some ⟨w.heap.size, 0, none⟩) 3 3] 24)) := by
  have h1 := heap_alloc_new w (.cells #[.int .i64 2, .int .i64 0, .int .i64 0, .int .i64 1, .int .i64 2, .int .i64 0, .int .i64 6, .int .i64 0, .int .i64 0] 38)
  have h2 := heap_alloc_new (w.alloc (.cells #[.int .i64 2, .int .i64 0, .int .i64 0, .int .i64 1, .int .i64 2, .int .i64 0, .int .i64 6, .int .i64 0, .int .i64 0] 38)) (.cells #[.bool false, .slice (some ⟨w.heap.size, 0, none⟩) 3 3] 24)
  rw [World.size_alloc] at h2
  exact ⟨(Below.heap_alloc _ _ _ (by simp)).trans h1, h2, (((Turned.refl [] w).alloc _).alloc _)⟩
/-- A lock in a row of its own. -/
theorem larg_one (W : World) (cr : Int) : LArg (W.alloc (.cells #[.bool false, .int .i64 0, .int .i64 cr, .int .i64 0, .int .i64 0] 35)) (some ⟨W.heap.size, 0, none⟩) W.heap.size 0 [(false, 0, cr, 0, 0)] := by
  have h1 := heap_alloc_new W (.cells #[.bool false, .int .i64 0, .int .i64 cr, .int .i64 0, .int .i64 0] 35)
  refine ⟨fun _ => ⟨rfl, by simp⟩, fun i hi => ?_⟩
  obtain ⟨V, hV⟩ : ∃ V, W.alloc (.cells #[.bool false, .int .i64 0, .int .i64 cr, .int .i64 0, .int .i64 0] 35) = V := ⟨_, rfl⟩
  rw [hV] at h1 ⊢
  have hi1 : i < 1 := hi
  match i, hi1 with
  | 0, _ => simp [World.cell?, h1]
set_option maxRecDepth 100000 in
set_option maxHeartbeats 6400000 in
theorem awake11 (w : World) : Calls Try.prog 5 #[] w fun e w' => e = .returned (.bool true) ∧ Below w.heap.size w w' := by
  refine callsIn_wide.1 (?_ : CallsIn Fence.wide 20 _ _ _ _ _)
  refine callsIn_of_wp_marks Try.func5 rfl trivial ?_ rfl
  simp only [Try.ntmps5, List.size_toArray, List.length_nil, Nat.reduceSub, Array.replicate_succ, Array.replicate_zero, List.push_toArray, List.append_toArray, List.nil_append, List.cons_append]
  refine wpIn_wide.2 ?_
  have h0 := awp_start w
  obtain ⟨W0, hW0⟩ : ∃ W0, (w.alloc (.cells #[.int .i64 2, .int .i64 0, .int .i64 0, .int .i64 1, .int .i64 2, .int .i64 0, .int .i64 6, .int .i64 0, .int .i64 0] 38)).alloc (.cells #[.bool false, .slice (some ⟨w.heap.size, 0, none⟩) 3 3] 24) = W0 := ⟨_, rfl⟩
  rw [hW0] at h0
  have HL : Hid (∀ V, AwP w V → Calls Try.prog 10 #[.agg #[.bool false, .slice (some ⟨w.heap.size, 0, none⟩) 3 3], .int .i64 0] V fun e w' => e = .returned (.int .i64 2) ∧ Below V.heap.size V w') := Lib.hid (fun V (hV : AwP w V) => by
    have h := plongest_any false (some ⟨w.heap.size, 0, none⟩) w.heap.size 0 3 awL 0 V hV.oarg (by decide) aw_ops
    rw [aw_long] at h
    exact h)
  have HS : Hid (∀ V, AwP w V → Calls Try.prog 11 #[.agg #[.bool false, .slice (some ⟨w.heap.size, 0, none⟩) 3 3]] V fun e w' => ∃ B, e = .returned (.func (.func 21) #[] #[.pointer (some ⟨B, 0, none⟩)]) ∧ KeptO V.heap.size w' B awL ∧ Below V.heap.size V w') := Lib.hid (fun V (hV : AwP w V) => sections_any false (some ⟨w.heap.size, 0, none⟩) w.heap.size 0 3 awL V hV.oarg (by decide))
  have HC2 : Hid (∀ V, AwP w V → Calls Try.prog 7 #[.agg #[.bool false, .slice (some ⟨w.heap.size, 0, none⟩) 3 3], .slice (some ⟨V.heap.size, 0, none⟩) 1 1, .int .i64 1] (V.alloc (.cells #[.bool false, .int .i64 0, .int .i64 2, .int .i64 0, .int .i64 0] 35)) (CkP (0, 0) (V.alloc (.cells #[.bool false, .int .i64 0, .int .i64 2, .int .i64 0, .int .i64 0] 35)))) := Lib.hid (fun V (hV : AwP w V) => by
    have h := pcheck_any false (some ⟨w.heap.size, 0, none⟩) w.heap.size 0 3 awL (some ⟨V.heap.size, 0, none⟩) V.heap.size 0 1 [(false, 0, 2, 0, 0)] 1 _ (hV.below ((Below.refl _ V).alloc (Nat.le_refl _) (.cells #[.bool false, .int .i64 0, .int .i64 2, .int .i64 0, .int .i64 0] 35))).oarg (larg_one V 2) (by decide)
    rw [aw_ok] at h
    exact h)
  have HC1 : Hid (∀ V, AwP w V → Calls Try.prog 7 #[.agg #[.bool false, .slice (some ⟨w.heap.size, 0, none⟩) 3 3], .slice (some ⟨V.heap.size, 0, none⟩) 1 1, .int .i64 1] (V.alloc (.cells #[.bool false, .int .i64 0, .int .i64 1, .int .i64 0, .int .i64 0] 35)) (CkP (0, 13) (V.alloc (.cells #[.bool false, .int .i64 0, .int .i64 1, .int .i64 0, .int .i64 0] 35)))) := Lib.hid (fun V (hV : AwP w V) => by
    have h := pcheck_any false (some ⟨w.heap.size, 0, none⟩) w.heap.size 0 3 awL (some ⟨V.heap.size, 0, none⟩) V.heap.size 0 1 [(false, 0, 1, 0, 0)] 1 _ (hV.below ((Below.refl _ V).alloc (Nat.le_refl _) (.cells #[.bool false, .int .i64 0, .int .i64 1, .int .i64 0, .int .i64 0] 35))).oarg (larg_one V 1) (by decide)
    rw [aw_crit] at h
    exact h)
  have HP0 := Lib.hid h0
  have HW0 := Lib.hid hW0
  clear h0 hW0
  go_wp2_with fail
  (try rw [HW0.out])
  with_reducible refine (HL.out _ HP0.out).mono ?_
  rintro e w1 ⟨rfl, hb1⟩
  have HP1 := Lib.hid (HP0.out.below hb1)
  obtain ⟨c0, c1⟩ := two_cells HP1.out.box
  obtain ⟨W2, hW2⟩ : ∃ W2, w1.alloc (.cells #[.int .i64 0] 3) = W2 := ⟨_, rfl⟩
  have hb12 := (Below.refl w1.heap.size w1).alloc (Nat.le_refl _) (.cells #[.int .i64 0] 3)
  have hn2 := heap_alloc_new w1 (.cells #[.int .i64 0] 3)
  rw [hW2] at hb12 hn2
  have HP2 := Lib.hid (HP1.out.below hb12)
  have HN2 := Lib.hid hn2
  have HW2 := Lib.hid hW2
  have lx := lt_of_block HP1.out.box
  clear hb1 hW2 hb12 hn2
  go_wp2_with fail
  rw [HW2.out]
  with_reducible refine (HS.out _ HP2.out).mono ?_
  rintro e W3 ⟨B, rfl, hK, hb3⟩
  obtain ⟨Yb, hY, hseq⟩ := secs1_seq (n := 19) (by omega) hK (by decide) aw_ops
  have HP3 := Lib.hid (HP2.out.below hb3)
  have HN3 := Lib.hid ((hb3.block _ (lt_of_block HN2.out)).trans HN2.out)
  have HY := Lib.hid hY
  have HSEQ := Lib.hid hseq
  obtain ⟨M, hM⟩ : ∃ M, w1.heap.size = M := ⟨_, rfl⟩
  have l1 : w.heap.size + 1 < M := by rw [← hM]; exact lt_of_block HP1.out.box
  have l3 : M < W3.heap.size := by rw [← hM]; exact lt_of_block HN3.out
  have l2 : M < W2.heap.size := by rw [← hM]; exact lt_of_block HN2.out
  rw [hM] at HN3 ⊢
  have HMM := Lib.hid hM
  clear hK hb3 hY hseq c0 c1 hM
  go_wp2_with fail
  refine (wpIn_wide (n := 20)).1 ?_
  refine range_turns_boxed rfl (by omega) (gf := 21) (lb := #[.pointer (some ⟨B, 0, none⟩)]) rfl trivial (enters_of Try.func21 (by kernel_rfl) rfl)
    (X := []) (Y := Yb) (by simp) (fun k hk => (HY.out k hk).2) HSEQ.out (fun _ => rfl) (fun _ _ _ h _ => h) (fun _ _ _ h _ => h)
    (fun pre W => AwP w W ∧ W3.heap.size ≤ W.heap.size ∧ W.heap[M]? = some (.cells #[.int .i64 (4 * (pre.length : Int))] 3 (0, 0)))
    (fun _ _ _ => False)
    (fun xs A B h mm => ⟨h.1.mild mm (by omega), Nat.le_trans h.2.1 mm.size, mm.cells h.2.2 (by simp)⟩) (fun c xs A B h mm => h) ⟨HP3.out, Nat.le_refl _, HN3.out⟩ (fun xs W h => h.2.1)
    44 (fun x => #[.int .i64 (x.1 : Nat), .int .i64 (x.2.1 : Nat), .int .i64 x.2.2.1, .int .i64 x.2.2.2]) ?a1 ?assign ?body ?done ?stop
  case assign =>
    intro l x Bk W K hBk hK
    gi_wp2
    exact hK
  case body =>
    rintro l pre x Bk W hk hbk ⟨hI, hz, hn⟩ hsp
    obtain ⟨rfl, rfl⟩ := aw_pre hsp
    simp only at hk
    obtain ⟨s0, s1, s2, s3, -⟩ := four_cells hk
    have b1 := cell1 hn
    have f1 := not_frozen hn 0
    have HI := Lib.hid hI
    have HNN := Lib.hid hn
    have HZ := Lib.hid hz
    rw [show (4 * (([] : List Sec).length : Int)) = 0 from rfl] at b1
    clear hI hn hsp hk hz
    gi_wp2
    refine ⟨(KeepsOthers.setCell _ _ _).from _, fun k hk => Below.heap_setCell _ _ _ _ (by have := (HY.out k hk).1; show k ≠ M; omega), ⟨?_, ?_, ?_⟩, ?_, ?_⟩
    · exact (Below.heap_setCell _ _ _ _ (by show w.heap.size ≠ M; omega)).trans HI.out.row
    · exact (Below.heap_setCell _ _ _ _ (by show w.heap.size + 1 ≠ M; omega)).trans HI.out.box
    · exact HI.out.t.setCell (.inr (by show w.heap.size ≤ M; omega)) _
    · simpa [World.setCell] using HZ.out
    · rw [heap_setCell_same _ _ _ _ _ _ HNN.out]
      rfl
  case stop =>
    rintro D c xs W _ _ h _
    exact h.elim
  case done =>
    rintro D xs W hD rfl ⟨hI, hz, hn⟩ hK
    rw [aw_secs] at hn
    rw [show (4 * (([(0, 2, 0, 2)] : List Sec).length : Int)) = 4 from rfl] at hn
    have b1 := cell1 hn
    obtain ⟨c0, c1⟩ := two_cells hI.box
    have HI := Lib.hid hI
    have HNN := Lib.hid hn
    have HKD := Lib.hid hK
    have hlb := lt_of_block hI.box
    have hln := lt_of_block hn
    clear hI hn hK hz
    go_wp2_with fail
    with_reducible refine (HC2.out _ HI.out).mono ?_
    rintro e V1 ⟨rfl, hv1⟩
    have hb1 : Below W.heap.size W V1 := ((Below.refl _ W).alloc (Nat.le_refl _) _).trans (hv1.mono (by simp))
    have HI1 := Lib.hid (HI.out.below hb1)
    have HN1 := Lib.hid ((hb1.block _ (lt_of_block HNN.out)).trans HNN.out)
    have HK1 := Lib.hid ((hb1.block _ (lt_of_block HKD.out)).trans HKD.out)
    clear c0 c1
    obtain ⟨c0, c1⟩ := two_cells HI1.out.box
    clear hv1 hb1 b1
    go_wp2_with fail
    with_reducible refine (HC1.out _ HI1.out).mono ?_
    rintro e V2 ⟨rfl, hv2⟩
    have hb2 : Below V1.heap.size V1 V2 := ((Below.refl _ V1).alloc (Nat.le_refl _) _).trans (hv2.mono (by simp))
    have HI2 := Lib.hid (HI1.out.below hb2)
    have HN2 := Lib.hid ((hb2.block _ (lt_of_block HN1.out)).trans HN1.out)
    have HK2 := Lib.hid ((hb2.block _ (lt_of_block HK1.out)).trans HK1.out)
    clear c0 c1
    obtain ⟨c0, c1⟩ := two_cells HI2.out.box
    have b2 := cell1 HN2.out
    clear hv2 hb2
    go_wp2_with fail
    with_reducible refine (HL.out _ HI2.out).mono ?_
    rintro e V3 ⟨rfl, hb3⟩
    have HI3 := Lib.hid (HI2.out.below hb3)
    have HK3 := Lib.hid ((hb3.block _ (lt_of_block HK2.out)).trans HK2.out)
    clear hb3
    go_wp2
    refine ⟨by simp, .inl ⟨_, _, rfl, run_takeDeferred HK3.out, ?_⟩⟩
    exact ⟨_, results_tmp rfl _ _ _, rfl, (HI3.out.t.put (by omega) _).below (by simp) (Nat.le_refl _)⟩
end Go.Proofs.Ytmcfjlkjijaflaa
