/-
  IdsetCalls: the walk (made by mk_calls.py).
-/
import Derived.Test.YtppdjdlnaohkiaaDoorIdAwake
import Derived.Test.YtppdjdlnaohkiaaDoorStillAt
import Derived.Sort.BigQuietIn
import Derived.BigQuiet
namespace Go.Proofs.YtppdjdlnaohkiaaDoor
open Go.RowKit Go.Maps Go.Shelf
attribute [local go_sem] Oper.semAt_some

theorem run_min_two {P : Program} {w : World} (ts : Array TypeId) (t : TypeId) (x y : Int) : (Builtin.min_ ts t #[.int .i64 x, .int .i64 y]).run P w = .ok (.int .i64 (min x y)) w := by
  rw [run_min_int2]
  congr 2
  split <;> omega
attribute [local go_sem ↓] run_min_two

/-- The law's own boxes. -/
structure CaB (w W : World) (n : Nat) (N l kb : Nat) (v : Value) (L : List Int) (k : Nat) : Prop where
  n : W.heap[w.heap.size]? = some (.cells #[.int .u8 (n : Nat)] 5 (0, 0))
  r : W.heap[w.heap.size + 1]? = some (.cells #[.bool false] 4 (0, 0))
  l : W.heap[l]? = some (.cells #[v] 24 (0, 0))
  k : W.heap[kb]? = some (.cells #[.int .i64 (k : Nat)] 3 (0, 0))
  row : W.ownsRow N 3 1 v L.length (intsOf L)
  t : Turned [] w W
theorem CaB.mild {w W W' : World} {n N l kb k M : Nat} {v : Value} {L : List Int} (h : CaB w W n N l kb v L k) (m : Mild [] M W W') (hM : w.heap.size ≤ M) : CaB w W' n N l kb v L k :=
  ⟨m.cells h.n (by simp), m.cells h.r (by simp), m.cells h.l (by simp), m.cells h.k (by simp), ownsRow_same h.row (fun g hg _ => by
    obtain ⟨cur, hc⟩ := ownsRow_type h.row g hg
    rw [m.cells hc (by simp), hc]), h.t.mild m hM (by simp)⟩
theorem CaB.later {w W W' : World} {n N l kb k : Nat} {v : Value} {L : List Int} (h : CaB w W n N l kb v L k) (t : Turned [] W W') : CaB w W' n N l kb v L k :=
  ⟨t.same h.n (by simp), t.same h.r (by simp), t.same h.l (by simp), t.same h.k (by simp), ownsRow_same h.row (fun g _ hl => t.block g hl (by simp)), h.t.trans t (Newer.refl _ _)⟩
theorem CaB.set {w W : World} {n N l kb k : Nat} {v : Value} {L : List Int} (h : CaB w W n N l kb v L k) (hl : w.heap.size + 1 < l) (hk : l < kb) (hv : ∀ g ∈ v.ownBlock.toList, g < l) (k' : Nat) : CaB w (W.setCell ⟨kb, 0, none⟩ (.int .i64 (k' : Nat))) n N l kb v L k' := by
  have o := fun j (hj : j ≠ kb) => Below.heap_setCell W ⟨kb, 0, none⟩ (.int .i64 (k' : Nat)) j hj
  refine ⟨(o _ (by omega)).trans h.n, (o _ (by omega)).trans h.r, (o _ (by omega)).trans h.l, ?_, ownsRow_same h.row (fun g hg _ => o g (by have := hv g hg; omega)), h.t.setCell (.inr (by simp; omega)) _⟩
  rw [heap_setCell_same _ _ _ _ _ _ h.k]
  rfl
/-- The number at a place of the list. -/
theorem ints_at {W : World} {N : Nat} {v : Value} {L : List Int} (h : W.ownsRow N 3 1 v L.length (intsOf L)) {j : Nat} (hj : j < L.length) : ∃ g cap, v = .slice (some ⟨g, 0, none⟩) L.length cap ∧ W.cell? ⟨g, j, none⟩ = some (.int .i64 (L.getD j 0)) := by
  obtain ⟨g, cap, rfl, _, _⟩ := ownsRow_pos h (by omega)
  refine ⟨g, cap, rfl, ?_⟩
  have := h.cells (g := g) rfl j (.int .i64 (L.getD j 0)) (by simp [intsOf, hj, List.getD_eq_getElem?_getD])
  rcases Nat.eq_zero_or_pos j with rfl | hp
  · simpa [Addr.add] using this
  · have h0 : ¬ j = 0 := by omega
    simpa [Addr.add, h0] using this

set_option maxRecDepth 100000 in
set_option maxHeartbeats 8000000 in
theorem calls_walk (s : Nat) (i : Int) (n : Nat) (w : World) (hs : s < 18446744073709551616) (hn : n ≤ 255) (hT : TabOk w) :
    Calls Tryd.prog 3 #[.int .u64 s, .int .i64 i, .int .u8 n] w fun e w' => e = .returned (.bool true) ∧ Below w.heap.size w w' := by
  refine callsIn_wide.1 (?_ : CallsIn Fence.wide 20 _ _ _ _ _)
  refine callsIn_of_wp_marks Tryd.func3 rfl trivial ?_ rfl
  simp only [Tryd.ntmps3, List.size_toArray, List.length_cons, List.length_nil, Nat.reduceAdd, Nat.reduceSub, Array.replicate_succ, Array.replicate_zero, List.push_toArray, List.append_toArray, List.nil_append, List.cons_append]
  refine wpIn_wide.2 ?_
  obtain ⟨W0, hW0⟩ : ∃ W0, (w.alloc (.cells #[.int .u8 n] 5)).alloc (.cells #[.bool false] 4) = W0 := ⟨_, rfl⟩
  have t0 : Turned [] w W0 := by rw [← hW0]; exact ((Turned.refl [] w).alloc _).alloc _
  have bn : W0.heap[w.heap.size]? = some (.cells #[.int .u8 n] 5 (0, 0)) := by
    rw [← hW0]
    exact (Below.heap_alloc _ _ _ (by simp)).trans (heap_alloc_new w _)
  have br : W0.heap[w.heap.size + 1]? = some (.cells #[.bool false] 4 (0, 0)) := by
    have h := heap_alloc_new (w.alloc (.cells #[.int .u8 n] 5)) (.cells #[.bool false] 4)
    rw [World.size_alloc] at h
    rw [← hW0]
    exact h
  have z0 : W0.heap.size = w.heap.size + 2 := by rw [← hW0]; simp
  have HW0 := Lib.hid hW0
  have HA := Lib.hid (awake6 W0 (hT.turned t0 (by simp)))
  have HT := Lib.hid hT
  have HTw := Lib.hid t0
  have BN := Lib.hid bn
  have BR := Lib.hid br
  have hlt : 0 < w.heap.size := HT.out.lt
  clear hW0 hT t0 bn br
  go_wp2_with fail
  rw [HW0.out]
  with_reducible refine HA.out.mono ?_
  rintro e W1 ⟨rfl, hb1⟩
  have t1 := Below.turned hb1
  have T1 := Lib.hid t1
  have z1 := hb1.size
  have HL := Lib.hid (rlist_any s W1)
  clear hb1 t1 HA HW0
  go_wp2_with fail
  with_reducible refine HL.out.mono ?_
  rintro e W2 ⟨v, rfl, hrow, hb2⟩
  obtain ⟨av, vcap, hv, _, _⟩ := ownsRow_shape hrow
  obtain ⟨m, hm⟩ : ∃ m, (listN s).length = m := ⟨_, rfl⟩
  have hm64 : m ≤ 64 := hm ▸ list_len_le s
  rw [hm] at hv
  subst hv
  obtain ⟨W3, hW3⟩ : ∃ W3, W2.alloc (.cells #[.slice av m vcap] 24) = W3 := ⟨_, rfl⟩
  obtain ⟨W4, hW4⟩ : ∃ W4, W3.alloc (.cells #[.int .i64 0] 3) = W4 := ⟨_, rfl⟩
  have t2 := Below.turned hb2
  have t02 : Turned [] W0 W2 := T1.out.trans t2 (Newer.refl _ _)
  have t24 : Turned [] W2 W4 := by rw [← hW4, ← hW3]; exact ((Turned.refl [] W2).alloc _).alloc _
  have t04 := t02.trans t24 (Newer.refl _ _)
  have hvl : ∀ g ∈ (Value.slice av m vcap).ownBlock.toList, g < W2.heap.size := ownsRow_lt hrow
  have z3 : W3.heap.size = W2.heap.size + 1 := by rw [← hW3]; simp
  have z2 := hb2.size
  have B4 : CaB w W4 n W1.heap.size W2.heap.size W3.heap.size (.slice av m vcap) (listN s) 0 := by
    refine ⟨t04.same BN.out (by simp), t04.same BR.out (by simp), ?_, ?_, ownsRow_same hrow (fun g _ hl => t24.block g hl (by simp)), HTw.out.trans t04 (Newer.refl _ _)⟩
    · rw [← hW4]
      refine (Below.heap_alloc _ _ _ (by rw [z3]; omega)).trans ?_
      rw [← hW3]
      exact heap_alloc_new W2 _
    · rw [← hW4]
      exact heap_alloc_new W3 _
  have HB4 := Lib.hid B4
  have HW3 := Lib.hid hW3
  have HW4 := Lib.hid hW4
  have HALL := Lib.hid (all_any s W4)
  have HVL := Lib.hid hvl
  have HM := Lib.hid hm
  clear hW3 hW4 t2 t02 t24 t04 hvl hrow hb2 B4 HL T1 BN BR HTw
  go_wp2_with fail
  rw [HW3.out, HW4.out]
  with_reducible refine HALL.out.mono ?_
  rintro e W5 ⟨rfl, h5⟩
  have t45 : Turned [] W4 W5 := by rw [h5]; exact (Turned.refl [] W4).alloc _
  have hB5 := HB4.out.later t45
  have hseq := all1_seq (n := 19) (by omega) (w := W5) (B := W4.heap.size) (s := s) (by rw [h5]; exact heap_alloc_new W4 _) hs (HT.out.turned hB5.t (by simp))
  have HB5 := Lib.hid hB5
  have HSEQ := Lib.hid hseq
  have z5 : W3.heap.size < W5.heap.size := lt_of_block hB5.k
  obtain ⟨lb, hlb⟩ : ∃ lb, W2.heap.size = lb := ⟨_, rfl⟩
  obtain ⟨ab, hab⟩ : ∃ ab, W4.heap.size = ab := ⟨_, rfl⟩
  obtain ⟨N1, hN1⟩ : ∃ N1, W1.heap.size = N1 := ⟨_, rfl⟩
  rw [z3] at z5 HB5
  rw [hlb] at HVL z3 z2 z5 HB5
  rw [hN1] at z2 z1 HB5
  rw [hab] at HSEQ
  rw [hlb, hab]
  have hll : w.heap.size + 1 < lb := by omega
  clear h5 t45 hB5 hseq HALL HB4 HW3 HW4 hlb hab hN1
  go_wp2_with fail
  refine (wpIn_wide (n := 20)).1 ?_
  refine range_turns_plain rfl (by omega) (gf := 19) (lb := #[.pointer (some ⟨ab, 0, none⟩)]) rfl trivial (enters_of Tryd.func19 (by kernel_rfl) rfl)
    (X := []) (Y := [0]) (by simp) (fun k hk => by simp at hk; omega) HSEQ.out (fun _ => rfl) (fun _ _ _ h _ => h) (fun _ _ _ h _ => h)
    (fun pre W => CaB w W n N1 lb (lb + 1) (.slice av m vcap) (listN s) pre.length ∧ pre.length ≤ n) (fun c pre W => c = .exit 0 ∧ CaB w W n N1 lb (lb + 1) (.slice av m vcap) (listN s) pre.length ∧ pre.length = n + 1)
    (fun xs A B h mm => ⟨h.1.mild mm (by omega), h.2⟩) (fun c xs A B h mm => ⟨h.1, h.2.1.mild mm (by omega), h.2.2⟩) ⟨HB5.out, Nat.zero_le _⟩
    ?a1 ?assign ?body ?done ?stop
  case assign =>
    intro l x W K hK
    gi_wp2
    exact hK
  case body =>
    rintro l pre x W ⟨hI, hpn⟩ hsp
    have hsp' : pre.length < (listN s).length ∧ (pre ++ [x]) = (listN s).take (pre.length + 1) := by
      have h1 := hsp.length_le
      have h2 := List.prefix_iff_eq_take.1 hsp
      simp at h1 h2
      exact ⟨by omega, h2⟩
    obtain ⟨k, hk⟩ : ∃ k, pre.length = k := ⟨_, rfl⟩
    have hLk : (listN s).getD k 0 = x := by
      have h1 := congrArg (fun z => z[k]?) hsp'.2
      simp only [hk] at h1 hsp'
      rw [List.getElem?_append_right (by omega), List.getElem?_take] at h1
      simp [hk] at h1
      rw [List.getD_eq_getElem?_getD, ← h1]
      rfl
    have hkm : k < m := by rw [← HM.out, ← hk]; exact hsp'.1
    rw [hk] at hI hpn
    obtain ⟨g, cap, hv, hc⟩ := ints_at hI.row (by rw [HM.out]; exact hkm)
    rw [hLk] at hc
    rw [HM.out] at hv
    simp only [Value.slice.injEq, true_and] at hv
    obtain ⟨rfl, rfl⟩ := hv
    have hset := hI.set hll (by omega) HVL.out (k + 1)
    rw [show (((k + 1 : Nat) : Int)) = (k : Int) + 1 by omega] at hset
    have b0 := cell1 hI.n
    have b1 := cell1 hI.l
    have b2 := cell1 hI.k
    have bf2 := frozen_of_row W (lb + 1) 0 _ _ hI.k
    have HS := Lib.hid hset
    have HKK := Lib.hid hk
    have k0 : (0 : Int) ≤ k := by omega
    have k1 : (k : Int) < m := by omega
    have d1 : decide ((m : Int) ≤ (k : Int)) = false := by simp; omega
    have d1' : decide (m ≤ k) = false := by simp; omega
    have w1 : IntKind.i64.wrap ((k : Int) + 1) = (k : Int) + 1 := by rw [IntKind.wrap_i64]; omega
    have w2 : IntKind.i64.wrap (n : Int) = (n : Int) := by rw [IntKind.wrap_i64]; omega
    have hlen : (pre ++ [x]).length = k + 1 := by simp [hk]
    have HLen := Lib.hid hlen
    have hkeep : KeepsFrom W5.heap.size W (W.setCell ⟨lb + 1, 0, none⟩ (.int .i64 ((k : Int) + 1))) ∧ SameAt [0] W (W.setCell ⟨lb + 1, 0, none⟩ (.int .i64 ((k : Int) + 1))) :=
      ⟨(KeepsOthers.setCell _ _ _).from _, fun j hj => Below.heap_setCell _ _ _ _ (by simp at hj ⊢; omega)⟩
    have HKP := Lib.hid hkeep
    clear hsp hsp' hLk hI hset hk hlen hkeep
    by_cases hkn : (n : Int) < (k : Int) + 1
    · have d2 : decide ((n : Int) < (k : Int) + 1) = true := by simpa using hkn
      gi_wp2
      exact ⟨HKP.out.1, HKP.out.2, rfl, by rw [HLen.out]; exact HS.out, by rw [HLen.out]; omega⟩
    · have d2 : decide ((n : Int) < (k : Int) + 1) = false := by simpa using hkn
      gi_wp2
      exact ⟨HKP.out.1, HKP.out.2, by rw [HLen.out]; exact HS.out, by rw [HLen.out]; omega⟩
  case done =>
    rintro D xs W hD rfl ⟨hI, hpn⟩ hK
    have hmin : min (m : Int) ((n : Int) + 1) = (m : Int) := by rw [HM.out] at hpn; omega
    rw [HM.out] at hI
    obtain ⟨q, hq⟩ : ∃ q : Int, (m : Int) = q := ⟨_, rfl⟩
    have hkq := hI.k
    rw [hq] at hkq hmin
    rw [← hq] at hmin
    have hmq : (min (m : Int) ((n : Int) + 1)) = q := by rw [hmin, hq]
    clear hmin hq
    have b0 := cell1 hI.n
    have b1 := cell1 hI.l
    have b2 := cell1 hkq
    have hTW := HT.out.turned hI.t (by simp)
    have w2 : IntKind.i64.wrap (n : Int) = (n : Int) := by rw [IntKind.wrap_i64]; omega
    have w3 : IntKind.i64.wrap ((n : Int) + 1) = (n : Int) + 1 := by rw [IntKind.wrap_i64]; omega
    have HI := Lib.hid hI
    have HKD := Lib.hid hK
    have hfn := hI.r
    have bf1 := frozen_of_row W (w.heap.size + 1) 0 _ _ hfn
    obtain ⟨E, hE⟩ : ∃ E, W.drew = E := ⟨_, rfl⟩
    have b0E : E.cell? ⟨w.heap.size, 0, none⟩ = some (.int .u8 (n : Nat)) := by rw [← hE]; exact b0
    have b1E : E.cell? ⟨lb, 0, none⟩ = some (.slice av m vcap) := by rw [← hE]; exact b1
    have b2E : E.cell? ⟨lb + 1, 0, none⟩ = some (.int .i64 q) := by rw [← hE]; exact b2
    have bfE : E.frozen? ⟨w.heap.size + 1, 0, none⟩ = W.frozen? ⟨w.heap.size + 1, 0, none⟩ := by rw [← hE]; rfl
    rw [bf1] at bfE
    have hIE : Turned [] w E := by rw [← hE]; exact hI.t.drew
    have hRE : E.heap[w.heap.size + 1]? = some (.cells #[.bool false] 4 (0, 0)) := by rw [← hE]; exact hI.r
    have hDE : E.heap[D]? = some (.deferred (some [])) := by rw [← hE]; exact hK
    have brE := cell1 hRE
    have HIE := Lib.hid hIE
    have HRE := Lib.hid hRE
    have HDE := Lib.hid hDE
    have C1 := Lib.hid (has_same s i E hs)
    have C2 := Lib.hid (rhasS_same s i E)
    have C3 := Lib.hid (with_same s i E hs)
    have C4 := Lib.hid (rwith_same s i E hs)
    have C5 := Lib.hid (without_same s i E hs)
    have C6 := Lib.hid (rwithout_same s i E hs)
    have C7 := Lib.hid (len_same s E hs)
    have C8 := Lib.hid (first_any s hs E (by rw [← hE]; exact hTW))
    rw [HM.out] at C7
    obtain ⟨y1, hy1⟩ : ∃ y, hasN s i = y := ⟨_, rfl⟩
    obtain ⟨y2, hy2⟩ : ∃ y, withN s i = y := ⟨_, rfl⟩
    obtain ⟨y3, hy3⟩ : ∃ y, withoutN s i = y := ⟨_, rfl⟩
    obtain ⟨y4, hy4⟩ : ∃ y, firstN s = y := ⟨_, rfl⟩
    rw [hy1] at C1 C2
    rw [hy2] at C3 C4
    rw [hy3] at C5 C6
    rw [hy4] at C8
    have x1 : (y1 == y1) = true := by simp
    have x2 : ((y2 : Int) == (y2 : Int)) = true := by simp
    have x3 : ((y3 : Int) == (y3 : Int)) = true := by simp
    have x4 : (y4 == y4) = true := by simp
    have x5 : (q == q) = true := by simp
    have x6 : ((m : Int) == (m : Int)) = true := by simp
    have mx : D ≠ w.heap.size + 1 := by omega
    have HF := Lib.hid hy4
    have HRow := Lib.hid hI.row
    clear hI hkq hTW hK hfn hIE hRE hDE hy1 hy2 hy3 hy4
    by_cases hm0 : m = 0
    · have hnil : listN s = [] := List.eq_nil_of_length_eq_zero (by rw [HM.out]; exact hm0)
      have hy : y4 = -1 := by rw [← HF.out]; unfold firstN; rw [hnil]; rfl
      have m0 : ¬ (0 : Int) < m := by omega
      have m1 : decide ((0 : Int) < (m : Int)) = false := by simpa using m0
      subst hy
      clear hnil hm0
      (try refine wpIn_exit ?_)
      go_wp2_with fail
      refine tail_at 48 hE (by kernel_rfl) (by kernel_rfl) ?_
      refine wpStill_of_quiet _ _ ?_
      simp only [List.take_succ_cons, List.take_zero, List.drop_succ_cons, List.drop_zero]
      repeat (first
        | go_big_quiet_skip
        | (go_big_quiet_want; go_big_quiet_op; first | go_big_quiet_on | (apply Exists.intro; refine ⟨?_, ?_⟩; (with_reducible first | exact C1.out | exact C2.out | exact C3.out | exact C4.out | exact C5.out | exact C6.out | exact C7.out | exact C8.out); go_big_quiet_on)))
      refine wpQuiet_nil ?_
      go_wp2
      refine ⟨by simp, .inl ⟨_, _, rfl, run_takeDeferred ((Below.heap_setCell _ _ _ _ mx).trans HDE.out), ?_⟩⟩
      refine ⟨_, bool_result rfl rfl ((World.putObj_heap_other (Ne.symm mx)).trans (heap_setCell_same _ _ _ _ _ _ HRE.out)), rfl, ((HIE.out.setCell (.inr (by simp)) _).put (by omega) _).below (by simp) (Nat.le_refl _)⟩
    · obtain ⟨g, cap, hv2, hc⟩ := ints_at (j := 0) HRow.out (by rw [HM.out]; omega)
      rw [HM.out] at hv2
      simp only [Value.slice.injEq, true_and] at hv2
      obtain ⟨rfl, rfl⟩ := hv2
      have hy : (listN s).getD 0 0 = y4 := by
        rw [← HF.out]
        unfold firstN
        have hl : 0 < (listN s).length := by rw [HM.out]; omega
        match listN s, hl with
        | x :: _, _ => rfl
      rw [hy] at hc
      have m0 : (0 : Int) < m := by omega
      have m1 : decide ((0 : Int) < (m : Int)) = true := by simpa using m0
      clear hy
      (try refine wpIn_exit ?_)
      go_wp2_with fail
      refine tail_at 48 hE (by kernel_rfl) (by kernel_rfl) ?_
      refine wpStill_of_quiet _ _ ?_
      simp only [List.take_succ_cons, List.take_zero, List.drop_succ_cons, List.drop_zero]
      repeat (first
        | go_big_quiet_skip
        | (go_big_quiet_want; go_big_quiet_op; first | go_big_quiet_on | (apply Exists.intro; refine ⟨?_, ?_⟩; (with_reducible first | exact C1.out | exact C2.out | exact C3.out | exact C4.out | exact C5.out | exact C6.out | exact C7.out | exact C8.out); go_big_quiet_on)))
      refine wpQuiet_nil ?_
      go_wp2
      refine ⟨by simp, .inl ⟨_, _, rfl, run_takeDeferred ((Below.heap_setCell _ _ _ _ mx).trans HDE.out), ?_⟩⟩
      refine ⟨_, bool_result rfl rfl ((World.putObj_heap_other (Ne.symm mx)).trans (heap_setCell_same _ _ _ _ _ _ HRE.out)), rfl, ((HIE.out.setCell (.inr (by simp)) _).put (by omega) _).below (by simp) (Nat.le_refl _)⟩
  case stop =>
    rintro D c xs W hD hsx ⟨rfl, hI, hpn⟩ hK
    have hle : n + 1 ≤ m := by rw [← hpn, ← HM.out]; exact hsx.length_le
    rw [hpn] at hI
    obtain ⟨q, hq⟩ : ∃ q : Int, ((n + 1 : Nat) : Int) = q := ⟨_, rfl⟩
    have hkq := hI.k
    rw [hq] at hkq
    have hmq : (min (m : Int) ((n : Int) + 1)) = q := by rw [← hq]; omega
    clear hq
    have b0 := cell1 hI.n
    have b1 := cell1 hI.l
    have b2 := cell1 hkq
    have hTW := HT.out.turned hI.t (by simp)
    have w2 : IntKind.i64.wrap (n : Int) = (n : Int) := by rw [IntKind.wrap_i64]; omega
    have w3 : IntKind.i64.wrap ((n : Int) + 1) = (n : Int) + 1 := by rw [IntKind.wrap_i64]; omega
    have HI := Lib.hid hI
    have HKD := Lib.hid hK
    have hfn := hI.r
    have bf1 := frozen_of_row W (w.heap.size + 1) 0 _ _ hfn
    obtain ⟨E, hE⟩ : ∃ E, W.drew = E := ⟨_, rfl⟩
    have b0E : E.cell? ⟨w.heap.size, 0, none⟩ = some (.int .u8 (n : Nat)) := by rw [← hE]; exact b0
    have b1E : E.cell? ⟨lb, 0, none⟩ = some (.slice av m vcap) := by rw [← hE]; exact b1
    have b2E : E.cell? ⟨lb + 1, 0, none⟩ = some (.int .i64 q) := by rw [← hE]; exact b2
    have bfE : E.frozen? ⟨w.heap.size + 1, 0, none⟩ = W.frozen? ⟨w.heap.size + 1, 0, none⟩ := by rw [← hE]; rfl
    rw [bf1] at bfE
    have hIE : Turned [] w E := by rw [← hE]; exact hI.t.drew
    have hRE : E.heap[w.heap.size + 1]? = some (.cells #[.bool false] 4 (0, 0)) := by rw [← hE]; exact hI.r
    have hDE : E.heap[D]? = some (.deferred (some [])) := by rw [← hE]; exact hK
    have brE := cell1 hRE
    have HIE := Lib.hid hIE
    have HRE := Lib.hid hRE
    have HDE := Lib.hid hDE
    have C1 := Lib.hid (has_same s i E hs)
    have C2 := Lib.hid (rhasS_same s i E)
    have C3 := Lib.hid (with_same s i E hs)
    have C4 := Lib.hid (rwith_same s i E hs)
    have C5 := Lib.hid (without_same s i E hs)
    have C6 := Lib.hid (rwithout_same s i E hs)
    have C7 := Lib.hid (len_same s E hs)
    have C8 := Lib.hid (first_any s hs E (by rw [← hE]; exact hTW))
    rw [HM.out] at C7
    obtain ⟨y1, hy1⟩ : ∃ y, hasN s i = y := ⟨_, rfl⟩
    obtain ⟨y2, hy2⟩ : ∃ y, withN s i = y := ⟨_, rfl⟩
    obtain ⟨y3, hy3⟩ : ∃ y, withoutN s i = y := ⟨_, rfl⟩
    obtain ⟨y4, hy4⟩ : ∃ y, firstN s = y := ⟨_, rfl⟩
    rw [hy1] at C1 C2
    rw [hy2] at C3 C4
    rw [hy3] at C5 C6
    rw [hy4] at C8
    have x1 : (y1 == y1) = true := by simp
    have x2 : ((y2 : Int) == (y2 : Int)) = true := by simp
    have x3 : ((y3 : Int) == (y3 : Int)) = true := by simp
    have x4 : (y4 == y4) = true := by simp
    have x5 : (q == q) = true := by simp
    have x6 : ((m : Int) == (m : Int)) = true := by simp
    have mx : D ≠ w.heap.size + 1 := by omega
    have HF := Lib.hid hy4
    have HRow := Lib.hid hI.row
    clear hI hkq hTW hK hfn hIE hRE hDE hy1 hy2 hy3 hy4
    by_cases hm0 : m = 0
    · omega
    · obtain ⟨g, cap, hv2, hc⟩ := ints_at (j := 0) HRow.out (by rw [HM.out]; omega)
      rw [HM.out] at hv2
      simp only [Value.slice.injEq, true_and] at hv2
      obtain ⟨rfl, rfl⟩ := hv2
      have hy : (listN s).getD 0 0 = y4 := by
        rw [← HF.out]
        unfold firstN
        have hl : 0 < (listN s).length := by rw [HM.out]; omega
        match listN s, hl with
        | x :: _, _ => rfl
      rw [hy] at hc
      have m0 : (0 : Int) < m := by omega
      have m1 : decide ((0 : Int) < (m : Int)) = true := by simpa using m0
      clear hy
      (try refine wpIn_exit ?_)
      go_wp2_with fail
      refine tail_at 48 hE (by kernel_rfl) (by kernel_rfl) ?_
      refine wpStill_of_quiet _ _ ?_
      simp only [List.take_succ_cons, List.take_zero, List.drop_succ_cons, List.drop_zero]
      repeat (first
        | go_big_quiet_skip
        | (go_big_quiet_want; go_big_quiet_op; first | go_big_quiet_on | (apply Exists.intro; refine ⟨?_, ?_⟩; (with_reducible first | exact C1.out | exact C2.out | exact C3.out | exact C4.out | exact C5.out | exact C6.out | exact C7.out | exact C8.out); go_big_quiet_on)))
      refine wpQuiet_nil ?_
      go_wp2
      refine ⟨by simp, .inl ⟨_, _, rfl, run_takeDeferred ((Below.heap_setCell _ _ _ _ mx).trans HDE.out), ?_⟩⟩
      refine ⟨_, bool_result rfl rfl ((World.putObj_heap_other (Ne.symm mx)).trans (heap_setCell_same _ _ _ _ _ _ HRE.out)), rfl, ((HIE.out.setCell (.inr (by simp)) _).put (by omega) _).below (by simp) (Nat.le_refl _)⟩
end Go.Proofs.YtppdjdlnaohkiaaDoor
