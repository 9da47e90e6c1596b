/-
  A heap's take, and nothing (element type struct{}; made by gen_hbe.py).
-/
import Derived.Test.YtiffgkmmibhklaaHbRiseE
namespace Go.Proofs.Ytiffgkmmibhklaa.E
open Go.RowKit Go.Maps

abbrev tKy : TypeId := 71
abbrev tEm : TypeId := 61
abbrev oE : Obj := .cells #[] tEm
theorem cHi : Try.prog.cellsOf tHi = 2 := by kernel_rfl
theorem bHi : Try.prog.bytesOf tHi = 24 := by kernel_rfl
theorem oHi : byteOfCell Try.prog Try.prog.depth tHi 0 = some 0 := by kernel_rfl
/-- Where a value of no cell lies in an item. -/
theorem part_run {w : World} {B : Nat} {x y : Value} (h : w.heap[B]? = some (.cells #[x, y] tHi (0, 0))) : (partAt ⟨B, 0, none⟩ 2 16).run Try.prog w = .ok ⟨B, 2, some 16⟩ w := by
  have h1 := cHi
  have h2 := bHi
  have h3 := oHi
  have hs : w.shape? B = some (tHi, 2) := by simp [World.shape?, h]
  simp [partAt, byteOf, noView, viewAt, Sem.run_bind, go_sem, hs, h1, h2, h3]
theorem results_ctt {fn : Func} {p u v : Tmp} {ty ty2 : TypeId} (h : fn.results = #[.cell p ty, .cell u ty2, .tmp v]) (tmps : Array Value) (P : Program) (w : World) :
    (results fn tmps).run P w = ((asAddr (tmps.getD p undef)).run P w).andThen fun a w₁ => ((loadVar ty a).run P w₁).andThen fun x w₂ => ((asAddr (tmps.getD u undef)).run P w₂).andThen fun a₂ w₃ => ((loadVar ty2 a₂).run P w₃).andThen fun y w₄ => .ok (.tuple #[x, y, tmps.getD v undef]) w₄ := by
  simp only [results, h]
  simp [Sem.run_bind, Result.andThen]
theorem key_result {fn : Func} {p u v : Tmp} (hf : fn.results = #[.cell p tKy, .cell u tEm, .tmp v]) {tmps : Array Value} {w : World} {B C : Nat} {x y c : Value} (hp : tmps.getD p undef = .pointer (some ⟨B, 0, none⟩)) (hu : tmps.getD u undef = .pointer (some ⟨C, 0, none⟩)) (hv : tmps.getD v undef = c)
    (h : w.heap[B]? = some (.cells #[x, y] tKy (0, 0))) : (results fn tmps).run Try.prog w = .ok (.tuple #[.agg #[x, y], .agg #[], c]) w := by
  obtain ⟨h0, h1, _⟩ := two_cells h
  rw [results_ctt hf, hp, hu, hv]
  simp [loadVar, go_sem, h0, h1]
theorem key_stored {w : World} {B : Nat} {x y x' y' : Value} {t : TypeId} (h : w.heap[B]? = some (.cells #[x, y] t (0, 0))) :
    ((w.setCell ⟨B, 0, none⟩ x').setCell ⟨B, 1, none⟩ y').heap[B]? = some (.cells #[x', y'] t (0, 0)) := by
  rw [heap_setCell_same _ _ _ _ _ _ (heap_setCell_same _ _ _ _ _ _ h)]
  rfl

set_option maxHeartbeats 400000 in
theorem nothing_any (w : World) : Calls Try.prog 50 #[] w fun e w' => e = .returned (.tuple #[.agg #[.int .u64 0, .int .i64 0], .agg #[], .bool false]) ∧ Turned [] w w' := by
  obtain ⟨W, hW⟩ : ∃ W, ((w.alloc (.cells #[.int .u64 0, .int .i64 0] tKy)).alloc (.cells #[] tEm)).alloc (.cells #[] tEm) = W := ⟨_, rfl⟩
  have TW : Turned [] w W := hW ▸ (((Turned.refl [] w).alloc _).alloc _).alloc _
  have KW : W.heap[w.heap.size]? = some (.cells #[.int .u64 0, .int .i64 0] tKy (0, 0)) := hW ▸ (Below.heap_alloc _ _ _ (by simp; omega)).trans ((Below.heap_alloc _ _ _ (by simp)).trans (heap_alloc_new w _))
  obtain ⟨b0, b1, bf⟩ := two_cells KW
  have bf0 := bf 0
  have bf1 := bf 1
  have MM := Lib.hid KW
  have HE := Lib.hid (show Turned [] w ((W.drew.setCell ⟨w.heap.size, 0, none⟩ (.int .u64 0)).setCell ⟨w.heap.size, 1, none⟩ (.int .i64 0)) from ((TW.drew).setCell (.inr (Nat.le_refl _)) _).setCell (.inr (Nat.le_refl _)) _)
  clear KW TW bf
  go_enter Try.func50, Try.ntmps50
  go_wp2_with fail
  go_region
  all_goals
    go_wp2
    (try simp only [Exit.inBlock, Exit.then])
    refine bodyPost_ret (key_result rfl rfl rfl rfl (key_stored MM.out)) rfl ?_
    exact ⟨rfl, HE.out⟩

set_option maxRecDepth 100000 in
set_option maxHeartbeats 1600000 in
theorem take_any {w : World} {b : Nat} {X : List Nat} {m : Int} {M L : List (Hm Unit)} {f : Int → Option Int} {s : Nat} (h : HI w b X m L f s) (o : HeapOk M L f) (hM : WfM L) (hL : L.length ≤ 4999) (hs : s ≤ L.length) (j : Nat) (hj : j < L.length) :
    Calls Try.prog 51 #[.pointer (some ⟨b, 0, none⟩), .int .i64 j] w fun e w' => e = .returned (.tuple #[.agg #[.int .u64 L[j].1, .int .i64 L[j].2.1], .agg #[], .bool true]) ∧
      ∃ L' f', HI w' b X m L' f' (L.length - 1) ∧ HeapOk (L.eraseIdx j) L' f' ∧ Turned X w w' := by
  obtain ⟨n, hn⟩ : ∃ n, L.length = n + 1 := ⟨L.length - 1, by omega⟩
  have hn1 : n < L.length := by omega
  obtain ⟨a, cap, gm, D, hb, ho, hc1, hc2, hm, hsz, hf, rfl⟩ := h.view
  obtain ⟨g, cap', hv, _, _⟩ := ownsRow_pos ho (by omega)
  simp only [Value.slice.injEq] at hv
  obtain ⟨rfl, _, rfl⟩ := hv
  have hbl := lt_of_block hb
  have hgl := ownsRow_lt ho g (by simp [Value.ownBlock])
  have hml := hm.lt
  have hb1 : b < w.heap.size + 1 := by omega
  have hb2 : b < w.heap.size + 1 + 1 := by omega
  have hg1 : g < w.heap.size + 1 := by omega
  have hg2 : g < w.heap.size + 1 + 1 := by omega
  have hbg : b ≠ g := fun h => block_off hb ho (by decide) (by simp [Value.ownBlock, h])
  obtain ⟨c0, c1, c2, _⟩ := cells3' hb
  have rj := row_cells encH_len ho hj
  have rn := row_cells encH_len ho hn1
  obtain ⟨⟨x1, x2, x3⟩, hx⟩ : ∃ x, L[j] = x := ⟨_, rfl⟩
  obtain ⟨⟨y1, y2, y3⟩, hy⟩ : ∃ y, L[n] = y := ⟨_, rfl⟩
  rw [hx] at rj ⊢
  rw [hy] at rn
  have r0 : w.cell? ⟨g, j * 2, none⟩ = some (.int .u64 x1) := (rj 0 (by omega)).1
  have r1 : w.cell? ⟨g, j * 2 + 1, none⟩ = some (.int .i64 x2) := (rj 1 (by omega)).1
  have s0 : w.cell? ⟨g, n * 2, none⟩ = some (.int .u64 y1) := (rn 0 (by omega)).1
  have s1 : w.cell? ⟨g, n * 2 + 1, none⟩ = some (.int .i64 y2) := (rn 1 (by omega)).1
  have f0 : w.frozen? ⟨g, n * 2, none⟩ = false := (rn 0 (by omega)).2
  have f1 := (rn 1 (by omega)).2
  have j0 : (0 : Int) ≤ j := by omega
  have j1 : (j : Int) < L.length := by omega
  have n0 : (0 : Int) ≤ n := by omega
  have n1 : (n : Int) < L.length := by omega
  have nw : (L.length : Int) - 1 = n := by omega
  have nw' : IntKind.i64.wrap ((L.length : Int) - 1) = n := by rw [IntWalk.i64_in _ (by omega)]; omega
  have HB := Lib.hid hb
  have HO := Lib.hid ho
  have HM := Lib.hid hm
  have HF := Lib.hid hf
  have HOK := Lib.hid o
  have HN := Lib.hid hn
  have HX := Lib.hid hx
  have HY := Lib.hid hy
  clear h hb ho hm hf o rj rn hn hx hy nw'
  go_enter Try.func51, Try.ntmps51
  go_wp2_with fail
  go_region
  obtain ⟨W1, hW1⟩ : ∃ W1, (((w.alloc (.cells #[.int .u64 0, .int .i64 0] tKy)).alloc (.cells #[] tEm)).alloc (.cells #[.int .u64 x1, .int .i64 x2] tHi)).drew = W1 := ⟨_, rfl⟩
  have T1 : Turned [] w W1 := hW1 ▸ ((((Turned.refl [] w).alloc _).alloc _).alloc _).drew
  have S1 : W1.heap.size = w.heap.size + 3 := by rw [← hW1]; simp
  have K0 : W1.heap[w.heap.size]? = some (.cells #[.int .u64 0, .int .i64 0] tKy (0, 0)) := by rw [← hW1]; exact (Below.heap_alloc _ _ _ (by simp; omega)).trans ((Below.heap_alloc _ _ _ (by simp)).trans (heap_alloc_new w _))
  have K1 : W1.heap[w.heap.size + 1 + 1]? = some (.cells #[.int .u64 x1, .int .i64 x2] tHi (0, 0)) := by
    rw [← hW1]
    have := heap_alloc_new ((w.alloc (.cells #[.int .u64 0, .int .i64 0] tKy)).alloc (.cells #[] tEm)) (.cells #[.int .u64 x1, .int .i64 x2] tHi)
    simp only [World.size_alloc] at this
    exact this
  obtain ⟨W2, hW2⟩ : ∃ W2, W1.alloc (.cells #[.int .u64 y1, .int .i64 y2] tHi) = W2 := ⟨_, rfl⟩
  have T12 : Turned [] W1 W2 := hW2 ▸ (Turned.refl [] W1).alloc _
  have T2 : Turned [] w W2 := T1.j T12
  have S2 : W2.heap.size = w.heap.size + 4 := by rw [← hW2]; simp; omega
  have K20 := T12.same K0 (by simp)
  have K21 := T12.same K1 (by simp)
  have K22 : W2.heap[W1.heap.size]? = some (.cells #[.int .u64 y1, .int .i64 y2] tHi (0, 0)) := by
    rw [← hW2]
    exact heap_alloc_new W1 (.cells #[.int .u64 y1, .int .i64 y2] tHi)
  have hb2 := T2.same HB.out (by simp)
  have ho2 := ownsRow_same (w' := W2) HO.out fun k _ hl => T2.block k hl (by simp)
  have hm2 := ownsMap_same (w' := W2) HM.out (T2.block gm hml (by simp))
  have d1 : W1.cell? ⟨b, 1, none⟩ = some (.slice (some ⟨g, 0, none⟩) L.length cap) := (cells3' (T1.same HB.out (by simp))).2.1
  have rn := row_cells encH_len (ownsRow_same (w' := W1) HO.out fun k _ hl => T1.block k hl (by simp)) hn1
  rw [HY.out] at rn
  have s0' : W1.cell? ⟨g, n * 2, none⟩ = some (.int .u64 y1) := (rn 0 (by omega)).1
  have s1' : W1.cell? ⟨g, n * 2 + 1, none⟩ = some (.int .i64 y2) := (rn 1 (by omega)).1
  have rn2 := row_cells encH_len ho2 hn1
  rw [HY.out] at rn2
  have u0 : W2.cell? ⟨g, n * 2, none⟩ = some (.int .u64 y1) := (rn2 0 (by omega)).1
  have u1 : W2.cell? ⟨g, n * 2 + 1, none⟩ = some (.int .i64 y2) := (rn2 1 (by omega)).1
  have v0 : W2.frozen? ⟨g, n * 2, none⟩ = false := (rn2 0 (by omega)).2
  have v1 : W2.frozen? ⟨g, n * 2 + 1, none⟩ = false := (rn2 1 (by omega)).2
  obtain ⟨_, e1, _, _⟩ := cells3' hb2
  obtain ⟨hb3, ho3, hm3, T23⟩ := HAt.setItem encH_len (by decide) hb2 ho2 hm2 hn1 (x := (0, 0, ())) rfl
  obtain ⟨W3, hW3⟩ : ∃ W3, (W2.setCell ⟨g, n * 2, none⟩ (.int .u64 0)).setCell ⟨g, n * 2 + 1, none⟩ (.int .i64 0) = W3 := ⟨_, rfl⟩
  simp only [hW3] at hb3 ho3 hm3 T23
  obtain ⟨_, p1, _, pf⟩ := cells3' hb3
  have pf1 := pf 1
  obtain ⟨W4, hW4⟩ : ∃ W4, W3.setCell ⟨b, 1, none⟩ (.slice (some ⟨g, 0, none⟩) n cap) = W4 := ⟨_, rfl⟩
  have hb4 : W4.heap[b]? = some (.cells #[.int .i64 m, .slice (some ⟨g, 0, none⟩) n cap, .map (some gm)] tHp (0, 0)) := by
    rw [← hW4, heap_setCell_same _ _ _ _ _ _ hb3]
    rfl
  have hcut : (L.set n (0, 0, ())).take n = L.take n := by rw [List.take_set]; exact List.set_eq_of_length_le (by rw [List.length_take]; omega)
  have hlt : (L.take n).length = n := by rw [List.length_take]; omega
  have ho4 : W4.ownsRow 0 tHi 2 (.slice (some ⟨g, 0, none⟩) n cap) (L.take n).length (cellsOf encH (L.take n)) := by
    rw [← hW4, hlt]
    have h5 := ownsRow_cut ho3 (k := n) (by omega)
    rw [← cellsOf_take encH_len, hcut] at h5
    exact ownsRow_setCell_other h5 (a := ⟨b, 1, none⟩) (by simp [Value.ownBlock]; exact fun e => hbg e.symm) _
  have hmb : gm ≠ b := ownsMap_off hm3 hb3
  have hm4 : W4.ownsMap Try.prog tN (plainElem (H := Unit) Try.prog tN) gm (Maps.size D) D := by rw [← hW4]; exact hm3.setCell hmb _
  have T34 : Turned [b] W3 W4 := hW4 ▸ (Turned.refl [b] W3).setCell (.inl (by simp)) _
  have T24 : Turned [b, g] W2 W4 := (T23.mono (fun k hk => .inl (by simp at hk; simp [hk]))).trans T34 (fun k hk => .inl (by simp at hk; simp [hk]))
  have nK : ∀ k, w.heap.size ≤ k → k ∉ [b, g] := fun k hk hx => by simp at hx; omega
  have K40 := T24.same K20 (nK _ (by omega))
  have K41 := T24.same K21 (nK _ (by omega))
  have K42 := T24.same K22 (nK _ (by omega))
  obtain ⟨_, _, q2, _⟩ := cells3' hb4
  obtain ⟨_, t1, _⟩ := two_cells K41
  have HB4 := Lib.hid hb4
  have HO4 := Lib.hid ho4
  have HM4 := Lib.hid hm4
  have HK0 := Lib.hid K40
  have HK1 := Lib.hid K41
  have HK2 := Lib.hid K42
  have HT4 := Lib.hid ((T2.mono (fun k hk => by simp at hk) : Turned [b, g] w W2).trans T24 (Newer.refl _ _))
  have HL := Lib.hid hlt
  have hnc : n ≤ cap := by omega
  have hwx : (litN x2).wf = true := by
    have := hM _ (List.getElem_mem hj)
    rwa [HX.out] at this
  have HNK : Hid (∀ k, w.heap.size ≤ k → k ∉ (gm :: b :: (Value.slice (some ⟨g, 0, none⟩) L.length cap).ownBlock.toList)) := Lib.hid (fun k hk hx => by simp [Value.ownBlock] at hx; omega)
  have HS1 := Lib.hid S1
  have HSz := Lib.hid (show w.heap.size + 4 ≤ W4.heap.size by have := T24.size; omega)
  rw [hW1]
  clear hW1 rn rn2 c0 c1 c2 r0 r1 s0 s1 f0 f1 T1 T12 T2 T23 T34 T24 K0 K1 K20 K21 K22 K40 K41 K42 hb2 ho2 hm2 hb3 ho3 hm3 hb4 ho4 hm4 hcut hlt S1 S2 pf nK
  go_wp2_with fail
  go_region_law (
    (refine step_mapDel _ rfl _ _ rfl rfl (HM4.out.drew) rfl hwx ?_
     intro w1 hown1 hturn1
     have HW := Lib.hid (And.intro hown1 hturn1)
     clear hown1 hturn1))
  all_goals
    obtain ⟨hown1, hturn1⟩ := HW.out
    have hfx : f x2 = some (j : Int) := by
      have := HOK.out.place.at_ j hj
      rwa [HX.out] at this
    have hfy : f y2 = some (n : Int) := by
      have := HOK.out.place.at_ n hn1
      rwa [HY.out] at this
    obtain ⟨h5, t5⟩ := HAt.delPlace (w := W4.drew) (v := .slice (some ⟨g, 0, none⟩) n cap) (L := L.take n) (s := n) HB4.out HO4.out HM4.out.drew (by have := HN.out; omega) HF.out hfx hown1 hturn1
    have hX : (gm :: b :: (Value.slice (some ⟨g, 0, none⟩) n cap).ownBlock.toList) = (gm :: b :: (Value.slice (some ⟨g, 0, none⟩) L.length cap).ownBlock.toList) := by simp [Value.ownBlock]
    rw [hX] at h5
    have t45 : Turned (gm :: b :: (Value.slice (some ⟨g, 0, none⟩) L.length cap).ownBlock.toList) w w1 :=
      (HT4.out.drew.mono (fun k hk => .inl (by simp at hk; simp [Value.ownBlock]; omega))).trans t5 (fun k hk => .inl (by simp at hk; simp [hk]))
    have H5 := Lib.hid h5
    have T5 := Lib.hid t45
    have ng : ∀ k, w.heap.size ≤ k → k ∉ [gm] := fun k hk hx => by simp at hx; omega
    have L0 := Lib.hid (t5.same (show W4.drew.heap[w.heap.size]? = _ from HK0.out) (ng _ (by omega)))
    have L1 := Lib.hid (t5.same (show W4.drew.heap[w.heap.size + 1 + 1]? = _ from HK1.out) (ng _ (by omega)))
    have L2 := Lib.hid (t5.same (show W4.drew.heap[W1.heap.size]? = _ from HK2.out) (ng _ (by have := HS1.out; omega)))
    clear h5 t5 t45 hX hown1 hturn1
    by_cases hjn : j < n
    · have z1 : decide ((j : Int) < n) = true := by simp; omega
      have oo := HOK.out.cutAt HN.out hjn
      rw [HX.out, HY.out] at oo
      have hwM : WfM ((L.take n).set j (y1, y2, y3)) := by
        intro z hz
        rcases List.mem_or_eq_of_mem_set hz with hz | hz
        · exact hM z (List.mem_of_mem_take hz)
        · rw [hz, ← HY.out]
          exact hM _ (List.getElem_mem hn1)
      have hset := settle_any H5.out oo hwM (by rw [List.length_set, HL.out]; omega) (by omega)
      have hyx : y2 ≠ x2 := by
        intro e
        rw [e, hfx] at hfy
        simp at hfy
        omega
      have hsz2 : (if (updF f x2 none y2).isSome then n else n + 1) = n := by rw [updF_other hyx, hfy]; rfl
      simp only [hsz2] at hset
      have HSet := Lib.hid hset
      obtain ⟨m0, m1, _⟩ := two_cells L2.out
      clear oo hwM hset hyx hsz2 hfx hfy
      go_wp2_with fail
      with_reducible refine HSet.out.mono ?_
      rintro e V ⟨rfl, L', f', h6, o6, t6⟩
      have M0 := t6.same L0.out (HNK.out _ (by omega))
      have M1 := t6.same L1.out (HNK.out _ (by omega))
      have hp := cut_perm L HN.out hjn
      rw [HY.out] at hp
      have HFin := Lib.hid (And.intro h6 (And.intro (o6.trans hp) (T5.out.trans t6 (Newer.refl _ _))))
      clear hp
      have MM0 := Lib.hid M0
      obtain ⟨b0, b1, bf⟩ := two_cells M0
      obtain ⟨a0, a1, _⟩ := two_cells M1
      have pr1 := part_run (w := V.drew) M1
      have pr2 := part_run (w := ((V.setCell ⟨w.heap.size, 0, none⟩ (.int .u64 x1)).setCell ⟨w.heap.size, 1, none⟩ (.int .i64 x2)).drew) ((Below.heap_setCell _ _ _ _ (by show w.heap.size + 1 + 1 ≠ w.heap.size; omega)).trans ((Below.heap_setCell _ _ _ _ (by show w.heap.size + 1 + 1 ≠ w.heap.size; omega)).trans M1))
      have bf0 := bf 0
      have bf1 := bf 1
      clear h6 o6 t6 M0 M1 bf m0 m1
      go_wp2_with fail
      go_region
      all_goals
        go_wp2
        (try simp only [Exit.inBlock, Exit.then])
        refine bodyPost_ret (key_result rfl rfl rfl rfl (key_stored MM0.out)) rfl ?_
        obtain ⟨g1, g2, g3⟩ := HFin.out
        have ht : Turned [w.heap.size] V (((V.drew).setCell ⟨w.heap.size, 0, none⟩ (.int .u64 x1)).setCell ⟨w.heap.size, 1, none⟩ (.int .i64 x2)) := (((Turned.refl _ V).drew).setCell (.inl (by simp)) _).setCell (.inl (by simp)) _
        have hn := HN.out
        have hnk : ∀ k ∈ (gm :: b :: (Value.slice (some ⟨g, 0, none⟩) L.length cap).ownBlock.toList), k ∉ [w.heap.size] := by
          intro k hk hw
          simp at hw
          exact HNK.out k (by omega) hk
        refine ⟨rfl, _, _, ?_, g2, ?_⟩
        · have := HAt.keep g1 ht hnk
          rw [show L.length - 1 = n by omega]
          exact this
        · exact g3.trans ht (fun k hk => .inr (by simp at hk; omega))
    · have z1 : decide ((j : Int) < n) = false := by simp; omega
      have hjn' : j = n := by have := HN.out; omega
      have oo := HOK.out.cutLast HN.out
      have exy : x2 = y2 := by
        have h1 := HX.out
        subst hjn'
        rw [HY.out] at h1
        cases h1
        rfl
      rw [HY.out, ← exy] at oo
      have hp : (L.take n).Perm (L.eraseIdx j) := by
        rw [hjn', List.eraseIdx_eq_take_drop_succ, List.drop_eq_nil_of_le (by have := HN.out; omega), List.append_nil]
      have HFin := Lib.hid (And.intro H5.out (And.intro (oo.trans hp) T5.out))
      have MM0 := L0
      obtain ⟨b0, b1, bf⟩ := two_cells L0.out
      obtain ⟨a0, a1, _⟩ := two_cells L1.out
      have pr1 := part_run (w := w1.drew) L1.out
      have pr2 := part_run (w := ((w1.setCell ⟨w.heap.size, 0, none⟩ (.int .u64 x1)).setCell ⟨w.heap.size, 1, none⟩ (.int .i64 x2)).drew) ((Below.heap_setCell _ _ _ _ (by show w.heap.size + 1 + 1 ≠ w.heap.size; omega)).trans ((Below.heap_setCell _ _ _ _ (by show w.heap.size + 1 + 1 ≠ w.heap.size; omega)).trans L1.out))
      have bf0 := bf 0
      have bf1 := bf 1
      clear bf oo hp exy hjn' hfx hfy
      go_wp2_with fail
      go_region
      all_goals
        go_wp2
        (try simp only [Exit.inBlock, Exit.then])
        refine bodyPost_ret (key_result rfl rfl rfl rfl (key_stored MM0.out)) rfl ?_
        obtain ⟨g1, g2, g3⟩ := HFin.out
        have ht : Turned [w.heap.size] w1 (((w1.drew).setCell ⟨w.heap.size, 0, none⟩ (.int .u64 x1)).setCell ⟨w.heap.size, 1, none⟩ (.int .i64 x2)) := (((Turned.refl _ w1).drew).setCell (.inl (by simp)) _).setCell (.inl (by simp)) _
        have hn := HN.out
        have hnk : ∀ k ∈ (gm :: b :: (Value.slice (some ⟨g, 0, none⟩) L.length cap).ownBlock.toList), k ∉ [w.heap.size] := by
          intro k hk hw
          simp at hw
          exact HNK.out k (by omega) hk
        refine ⟨rfl, _, _, ?_, g2, ?_⟩
        · have := HAt.keep g1 ht hnk
          rw [show L.length - 1 = n by omega]
          exact this
        · exact g3.trans ht (fun k hk => .inr (by simp at hk; omega))
end Go.Proofs.Ytiffgkmmibhklaa.E
