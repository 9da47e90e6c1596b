/-
  A queue's unlink (element type api.Wait; made by gen_ffw.py).
-/
import Derived.Test.YtiffgkmmibhklaaFqPutW
namespace Go.Proofs.Ytiffgkmmibhklaa.Wq
open Go.RowKit Go.Maps

theorem ndc_result {fn : Func} {p : Tmp} (hf : fn.results = #[.cell p tNd]) {tmps : Array Value} {w : World} {B : Nat} {x1 x2 x3 y z t : Value} (hp : tmps.getD p undef = .pointer (some ⟨B, 0, none⟩))
    (h : w.heap[B]? = some (.cells #[x1, x2, x3, y, z, t] tNd (0, 0))) : (results fn tmps).run Try.prog w = .ok (.agg #[x1, x2, x3, y, z, t]) w := by
  obtain ⟨h0, h1, h2, h3, h4, h5, _⟩ := cells6 h
  rw [results_c hf, hp]
  simp [loadVar, go_sem, h0, h1, h2, h3, h4, h5]

set_option maxRecDepth 100000 in
set_option maxHeartbeats 1600000 in
theorem fqunlink_any {w : World} {b : Nat} {X : List Nat} {m : Int} {S : List (Nd Wt × Bool)} {F : List Nat} {f : Int → Option Int} {s : Nat} {fst lst l : Int} (h : FqRaw w b X m S F f (s + 1) fst lst l) (j : Nat) (v : Wt) (t a c : Int) (hj : S[j]? = some ((v, t, a, c), true)) (ht : (litN t).wf = true)
    (hF : F.length ≤ 5000) (hft : (f t).isSome = true) :
    Calls Try.prog 70 #[.pointer (some ⟨b, 0, none⟩), .int .i64 (j : Int)] w fun e w' => e = .returned (ndV (v, t, a, c)) ∧
      ∃ X', FqRaw w' b X' m (saS (sbS (S.set j (nd0, false)) a c) c a) (F ++ [j]) (updF f t none) s (sbF (S.set j (nd0, false)) a c fst) (saL (sbS (S.set j (nd0, false)) a c) c a lst) l ∧ Turned X w w' ∧ Newer X w.heap.size X' := by
  obtain ⟨S1, hS1⟩ : ∃ S1, S.set j (nd0, false) = S1 := ⟨_, rfl⟩
  obtain ⟨S2, hS2⟩ : ∃ S2, sbS S1 a c = S2 := ⟨_, rfl⟩
  obtain ⟨S3, hS3⟩ : ∃ S3, saS S2 c a = S3 := ⟨_, rfl⟩
  have HLT := Lib.hid h.lt
  obtain ⟨W, hW⟩ : ∃ W, w.alloc (ndC nd0) = W := ⟨_, rfl⟩
  have T0 : Turned [] w W := hW ▸ (Turned.refl [] w).alloc _
  have K0 : W.heap[w.heap.size]? = some (ndC nd0) := hW ▸ heap_alloc_new w _
  have h' := h.keep T0 (by simp)
  have hbc : w.heap.size < W.heap.size := lt_of_block K0
  obtain ⟨ab, gm, Y, D, hb, ha, hmm, hsz, hff, rfl⟩ := h'
  have HP := Lib.hid (androp_yes ha (j : Int) j rfl _ hj (by omega))
  rw [hS1] at HP
  have HAR := Lib.hid (fun (w' : World) (Y' : List Nat) (ha' : AnI w' ab Y' m S1 (F ++ [j])) ht hn => FqRaw.arena (w' := w') (Y' := Y') hb ha hmm hsz hff ha' ht hn)
  obtain ⟨d0, _, _, _, _, _⟩ := cells5 hb
  have HK0 := Lib.hid K0
  have HT0 := Lib.hid T0
  simp only [hS1, hS2, hS3]
  clear hb ha hmm hsz hff T0 K0 h hj hF
  go_enter Try.func70, Try.ntmps70
  go_wp2_with fail
  (try rw [hW])
  clear hW
  with_reducible refine HP.out.mono ?_
  rintro e w2 ⟨rfl, Y', ha2, ht2, hn2⟩
  obtain ⟨r1, r2, r3⟩ := HAR.out w2 Y' ha2 ht2 hn2
  have k2 := r2.same HK0.out (fun hx => by have := HLT.out _ hx; omega)
  -- the local node
  have T2 : Turned [] w2 (w2.alloc (ndC (v, t, a, c))) := (Turned.refl [] w2).alloc _
  have r1' := r1.keep T2 (by simp)
  have k2' := T2.same k2 (by simp)
  have l2 : (w2.alloc (ndC (v, t, a, c))).heap[w2.heap.size]? = some (ndC (v, t, a, c)) := heap_alloc_new w2 _
  have hlt2 := r1.lt
  have n1 : Newer (b :: gm :: Y) w.heap.size (b :: gm :: Y') := r3.mono HT0.out.size
  have nz : ∀ x ∈ b :: gm :: Y', x ≠ w.heap.size ∧ x ≠ w2.heap.size := fun x hx => ⟨fun e => by
    rcases r3 x hx with h | h
    · have := HLT.out x h; omega
    · omega, fun e => by have := hlt2 x hx; omega⟩
  have hne : w.heap.size < w2.heap.size := lt_of_block k2
  have T2w : Turned (b :: gm :: Y) w (w2.alloc (ndC (v, t, a, c))) := ((HT0.out.mono (fun k hk => by simp at hk)).trans r2 (Newer.refl _ _)).trans (T2.mono (fun k hk => by simp at hk)) (Newer.refl _ _)
  have HB := Lib.hid (fqbehind_any r1' a c)
  obtain ⟨w3, hw3⟩ : ∃ w3, w2.alloc (ndC (v, t, a, c)) = w3 := ⟨_, rfl⟩
  have L2 := Lib.hid l2
  have K2 := Lib.hid k2'
  have NZ := Lib.hid nz
  have N1 := Lib.hid n1
  have T2W := Lib.hid T2w
  obtain ⟨e0, e1, e2, e3, e4, e5, _⟩ := cells6 l2
  rw [hS2] at HB
  clear ha2 ht2 hn2 r1 r2 r3 k2 T2 r1' k2' l2 hlt2 n1 nz T2w HAR HP
  rw [hw3] at HB L2 K2 T2W e0 e1 e2 e3 e4 e5
  go_wp2_with fail
  (try rw [hw3])
  clear hw3
  with_reducible refine HB.out.mono ?_
  rintro e w4 ⟨rfl, q1, q2⟩
  have l4 := q2.same L2.out (fun hx => (NZ.out _ hx).2 rfl)
  have k4 := q2.same K2.out (fun hx => (NZ.out _ hx).1 rfl)
  obtain ⟨g0, g1, g2, g3, g4, g5, _⟩ := cells6 l4
  have HA := Lib.hid (fqahead_any q1 c a)
  rw [hS3] at HA
  have L4 := Lib.hid l4
  have K4 := Lib.hid k4
  have T4 := Lib.hid (T2W.out.trans q2 N1.out)
  clear q1 q2 l4 k4 HB
  go_wp2_with fail
  with_reducible refine HA.out.mono ?_
  rintro e w5 ⟨rfl, q1, q2⟩
  have l5 := q2.same L4.out (fun hx => (NZ.out _ hx).2 rfl)
  have k5 := q2.same K4.out (fun hx => (NZ.out _ hx).1 rfl)
  have T5 := Lib.hid (T4.out.trans q2 N1.out)
  obtain ⟨u0, u1, u2, u3, u4, u5, _⟩ := cells6 l5
  obtain ⟨ab4, gm4, Z4, D4, hb4, ha4, hm4, hs4, hf4, hX4⟩ := q1
  obtain ⟨_, m1, _, _, _, _⟩ := cells5 hb4
  have hsz5 : Maps.size (D4.del (litN t)) ≤ s := by
    have h1 := size_del (k := litN t) (hm4.tidy lawN)
    rw [hf4.has t, hft] at h1
    simp at h1
    omega
  have HM4 := Lib.hid hm4
  have HR5 := Lib.hid (fun (w' : World) hm' hturn => FqRaw.map (w := w5.drew) (w' := w') hb4 (ha4.keep ((Turned.refl [] w5).drew) (by simp)) hm4.drew (n' := Maps.size D4) (D' := D4.del (litN t)) (s' := s) hm' hturn hsz5 (hf4.del t))
  have L5 := Lib.hid l5
  have K5 := Lib.hid k5
  have HX4 := Lib.hid hX4
  clear q2 l5 k5 hb4 ha4 hm4 hs4 hf4 hX4 hsz5
  go_wp2_with fail
  go_region_law (
    (refine step_mapDel _ rfl _ _ rfl rfl (HM4.out.drew) rfl ht ?_
     intro w6 hown6 hturn6
     have HW := Lib.hid (HR5.out w6 hown6 hturn6)
     clear hown6 hturn6))
  all_goals
    obtain ⟨p1, p2⟩ := HW.out
    rw [← HX4.out] at p1 p2
    have l6 := p2.same (show w5.drew.heap[w2.heap.size]? = _ from L5.out) (fun hx => (NZ.out _ hx).2 rfl)
    have k6 := p2.same (show w5.drew.heap[w.heap.size]? = _ from K5.out) (fun hx => (NZ.out _ hx).1 rfl)
    obtain ⟨i0, i1, i2, i3, i4, i5, _⟩ := cells6 l6
    obtain ⟨o0, o1, o2, o3, o4, o5, of⟩ := cells6 k6
    have of0 := of 0
    have of1 := of 1
    have of2 := of 2
    have of3 := of 3
    have of4 := of 4
    have of5 := of 5
    have KK := Lib.hid (stored6 (a' := .int .i64 v.1) (b' := .int .i64 v.2.1) (c' := .int .u64 v.2.2) (y' := .int .i64 t) (z' := .int .i64 a) (u' := .int .i64 c) k6)
    have P1 := Lib.hid p1
    have T6 := Lib.hid ((T5.out.drew).trans p2 N1.out)
    clear p1 p2 l6 k6 of HW
    go_wp2_with fail
    (try simp only [Exit.inBlock, Exit.then])
    refine bodyPost_ret (ndc_result rfl rfl KK.out) rfl ?_
    have ht4 : Turned [w.heap.size] w6 ((((((w6.setCell ⟨w.heap.size, 0, none⟩ (.int .i64 v.1)).setCell ⟨w.heap.size, 1, none⟩ (.int .i64 v.2.1)).setCell ⟨w.heap.size, 2, none⟩ (.int .u64 v.2.2)).setCell ⟨w.heap.size, 3, none⟩ (.int .i64 t)).setCell ⟨w.heap.size, 4, none⟩ (.int .i64 a)).setCell ⟨w.heap.size, 5, none⟩ (.int .i64 c)) := (Turned.refl _ w6).set6 (.inl (by simp)) _ _ _ _ _ _
    refine ⟨rfl, _, P1.out.keep ht4 (fun k hk hw => ?_), T6.out.trans ht4 (fun k hk => .inr (by simp at hk; omega)), N1.out⟩
    simp at hw
    exact (NZ.out k hk).1 hw
end Go.Proofs.Ytiffgkmmibhklaa.Wq
