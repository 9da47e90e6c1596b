/-
  A heap's risen, sunk, settle (element type struct{}; made by gen_hbe.py).
-/
import Derived.Test.YtiffgkmmibhklaaHbPutE
namespace Go.Proofs.Ytiffgkmmibhklaa.E
open Go.RowKit Go.Maps

/-- All numbers are whole numbers of the machine. -/
abbrev WfM (M : List (Hm Unit)) : Prop := ∀ x ∈ M, (litN x.2.1).wf = true

set_option maxRecDepth 100000 in
set_option maxHeartbeats 1600000 in
theorem risen_any {w : World} {b : Nat} {X : List Nat} {m : Int} {it : Hm Unit} {M L : List (Hm Unit)} {f : Int → Option Int} {s p : Nat} (h : HI w b X m L f s) (o : HoleOk it M L p f) (hM : WfM M) (hL : M.length ≤ 5000) (hs : s ≤ 5000) :
    Calls Try.prog 67 #[.pointer (some ⟨b, 0, none⟩), .int .i64 p, .agg #[.int .u64 it.1, .int .i64 it.2.1]] w fun e w' => ∃ p' : Nat, ∃ L' f', e = .returned (.int .i64 p') ∧
      HI w' b X m L' f' s ∧ HoleOk it M L' p' f' ∧ f' it.2.1 = f it.2.1 ∧ (0 < p' → ¬ KLt (it.1, it.2.1) (keyN L' (up p'))) ∧ Turned X w w' := by
  obtain ⟨W, hW⟩ : ∃ W, w.alloc (.cells #[.int .u64 it.1, .int .i64 it.2.1] 71) = W := ⟨_, rfl⟩
  have T0 : Turned [] w W := hW ▸ (Turned.refl [] w).alloc _
  have K0 : W.heap[w.heap.size]? = some (.cells #[.int .u64 it.1, .int .i64 it.2.1] 71 (0, 0)) := hW ▸ heap_alloc_new w _
  have hlt := h.lt
  have hBX : w.heap.size ∉ X := fun hx => by have := hlt _ hx; omega
  have H0 := Lib.hid (h.keep T0 (by simp))
  have T0' := Lib.hid (T0.up : Turned X w W)
  have O0 := Lib.hid o
  have HM := Lib.hid hM
  have HK0 := Lib.hid K0
  obtain ⟨B, hB⟩ : ∃ B, w.heap.size = B := ⟨_, rfl⟩
  rw [hB] at HK0 hBX
  clear h o hM T0 K0 hlt
  obtain ⟨x1, x2, x3⟩ := it
  simp only at HK0 hW ⊢
  go_enter Try.func67, Try.ntmps67
  go_wp2_with fail
  go_loopw [1] (fun a wr => ∃ q : Nat, ∃ L' f', a = .int .i64 q ∧ Hid (HI wr b X m L' f' s) ∧ Hid (HoleOk (x1, x2, x3) M L' q f') ∧ Hid (f' x2 = f x2) ∧ Hid (wr.heap[B]? = some (.cells #[.int .u64 x1, .int .i64 x2] 71 (0, 0))) ∧ Hid (Turned X w wr)) (fun a _ => (intOf a).toNat)
  case atStart => exact ⟨p, L, f, rfl, H0, O0, Lib.hid rfl, HK0, T0'⟩
  case round =>
    obtain ⟨q, L', f', rfl, HH, HO, HE, HK, HT⟩ := hrel
    have hlen : L'.length ≤ 5000 := by rw [HO.out.len]; exact hL
    have hql := HO.out.ord.lt
    by_cases h0 : 0 < q
    · obtain ⟨a, ha⟩ : ∃ a, up q = a := ⟨_, rfl⟩
      have hq : ((q : Int) - 1).tdiv 2 = (a : Int) := by
        rw [Int.tdiv_eq_ediv_of_nonneg (by omega), ← ha]
        unfold up
        omega
      have haq : a < q := by rw [← ha]; unfold up; omega
      have z0 : decide ((0 : Int) < q) = true := by simp; omega
      obtain ⟨aa, cap, c1, hr⟩ := HH.out.item
      obtain ⟨g, rfl, r0, r1⟩ := hr a (by omega)
      have hm := HM.out _ (HO.out.mem (j := a) (by omega) (by omega))
      have hkn := keyN_at (L := L') (i := a) (by omega)
      have hpl := HO.out.place.at_ a (by omega) (by omega)
      have hof := HO.out.place.off a (by omega) (by omega)
      have hri := HO.out.rise h0 (by rw [ha]; omega)
      obtain ⟨⟨y1, y2, y3⟩, hy⟩ : ∃ y, L'[a]'(by omega) = y := ⟨_, rfl⟩
      simp only [ha] at hri
      rw [hy] at r0 r1 hkn hm hri hpl hof
      simp only at r0 r1 hkn hm hri hpl hof
      have i0 : (0 : Int) ≤ a := by omega
      have i1 : (a : Int) < L'.length := by omega
      obtain ⟨V, hV⟩ : ∃ V, wr.drew = V := ⟨_, rfl⟩
      have HC := Lib.hid (less_any x1 x2 y1 y2 V)
      have HT0 : Hid (Turned [] wr V) := Lib.hid (hV ▸ (Turned.refl [] wr).drew)
      have d1 : V.cell? ⟨b, 1, none⟩ = some (.slice (some ⟨g, 0, none⟩) L'.length cap) := by rw [← hV]; exact c1
      have d2 : V.cell? ⟨g, a * 2, none⟩ = some (.int .u64 y1) := by rw [← hV]; exact r0
      have d3 : V.cell? ⟨g, a * 2 + 1, none⟩ = some (.int .i64 y2) := by rw [← hV]; exact r1
      obtain ⟨k0, k1, _⟩ := two_cells (HT0.out.same HK.out (by simp))
      obtain ⟨kb, hkb⟩ : ∃ kb : Bool, decide (KLt (x1, x2) (y1, y2)) = kb := ⟨_, rfl⟩
      rw [hkb] at HC
      have HKN := Lib.hid hkn
      have HRI := Lib.hid hri
      have HWm := Lib.hid hm
      have HKB := Lib.hid hkb
      have HY := Lib.hid hy
      have HP := Lib.hid hpl
      have HOff := Lib.hid hof
      clear hof
      clear hr hm hkn hri hkb hy c1 r0 r1 hpl
      go_wp2_with fail
      refine tail_at 9 hV (by kernel_rfl) (by kernel_rfl) ?_
      clear hV
      simp only [List.take_succ_cons, List.take_zero, List.drop_succ_cons, List.drop_zero]
      repeat still_step
      refine wpStill_nil ?_
      go_wp2_with fail
      with_reducible refine HC.out.mono ?_
      rintro e V2 ⟨rfl, t2⟩
      have T2 := Lib.hid (HT0.out.j t2)
      have H2 := Lib.hid (HH.out.keep T2.out (by simp))
      have K2 := Lib.hid (T2.out.same HK.out (by simp))
      clear t2 d1 d2 d3 k0 k1
      cases kb with
      | false =>
        go_wp2
        go_ret
        refine ⟨q, L', f', rfl, H2.out, HO.out, HE.out, fun _ => ?_, (HT.out.trans T2.out.up (Newer.refl _ _))⟩
        rw [ha, HKN.out]
        simpa using HKB.out
      | true =>
        obtain ⟨aa, cap2, c1, hr⟩ := HI.item H2.out
        obtain ⟨g2, rfl, r0, r1⟩ := hr a (by omega)
        rw [HY.out] at r0 r1
        simp only at r0 r1
        have HPut := Lib.hid (put_any H2.out q (by omega) (y1, y2, y3) HWm.out (by omega) hs)
        clear hr
        go_wp2_with fail
        with_reducible refine HPut.out.mono ?_
        rintro e V3 ⟨rfl, h3, t3⟩
        have hsz : (if (f' y2).isSome then s else s + 1) = s := by rw [HP.out]; rfl
        simp only [hsz] at h3
        have hBv : B < V2.heap.size := lt_of_block K2.out
        have H3 := Lib.hid h3
        have K3 := Lib.hid (t3.same K2.out hBX)
        have T3 := Lib.hid ((HT.out.trans T2.out.up (Newer.refl _ _)).trans t3 (Newer.refl _ _))
        clear h3 t3 hsz c1 r0 r1
        go_wp2
        go_roundw
        case rel => exact ⟨a, _, _, rfl, H3, HRI, Lib.hid ((updF_other (Ne.symm HOff.out)).trans HE.out), K3, T3⟩
        case measure => simp [intOf]; omega
    · have h0' : q = 0 := by omega
      subst h0'
      clear hlen hql h0
      go_wp2
      go_ret
      exact ⟨0, L', f', rfl, HH.out, HO.out, HE.out, fun h => absurd h (by omega), HT.out⟩

set_option maxRecDepth 100000 in
set_option maxHeartbeats 1600000 in
theorem sunk_any {w : World} {b : Nat} {X : List Nat} {m : Int} {it : Hm Unit} {M L : List (Hm Unit)} {f : Int → Option Int} {s p : Nat} (h : HI w b X m L f s) (o : HoleOk it M L p f) (hup : 0 < p → ¬ KLt (it.1, it.2.1) (keyN L (up p))) (hM : WfM M) (hL : M.length ≤ 5000) (hs : s ≤ 5000) :
    Calls Try.prog 66 #[.pointer (some ⟨b, 0, none⟩), .int .i64 p, .agg #[.int .u64 it.1, .int .i64 it.2.1]] w fun e w' => ∃ p' : Nat, ∃ L' f', e = .returned (.int .i64 p') ∧
      HI w' b X m L' f' s ∧ HoleOk it M L' p' f' ∧ f' it.2.1 = f it.2.1 ∧ (0 < p' → ¬ KLt (it.1, it.2.1) (keyN L' (up p'))) ∧ (lowN L' p' ≠ p' → ¬ KLt (keyN L' (lowN L' p')) (it.1, it.2.1)) ∧ Turned X w w' := by
  obtain ⟨W, hW⟩ : ∃ W, w.alloc (.cells #[.int .u64 it.1, .int .i64 it.2.1] 71) = W := ⟨_, rfl⟩
  have T0 : Turned [] w W := hW ▸ (Turned.refl [] w).alloc _
  have K0 : W.heap[w.heap.size]? = some (.cells #[.int .u64 it.1, .int .i64 it.2.1] 71 (0, 0)) := hW ▸ heap_alloc_new w _
  have hlt := h.lt
  have hBX : w.heap.size ∉ X := fun hx => by have := hlt _ hx; omega
  have H0 := Lib.hid (h.keep T0 (by simp))
  have T0' := Lib.hid (T0.up : Turned X w W)
  have O0 := Lib.hid o
  have U0 := Lib.hid hup
  have HM := Lib.hid hM
  have HK0 := Lib.hid K0
  obtain ⟨B, hB⟩ : ∃ B, w.heap.size = B := ⟨_, rfl⟩
  rw [hB] at HK0 hBX
  clear h o hM T0 K0 hlt hup
  obtain ⟨x1, x2, x3⟩ := it
  simp only at HK0 hW U0 ⊢
  go_enter Try.func66, Try.ntmps66
  go_wp2_with fail
  go_loopw [1] (fun a wr => ∃ q : Nat, ∃ L' f', a = .int .i64 q ∧ Hid (HI wr b X m L' f' s) ∧ Hid (HoleOk (x1, x2, x3) M L' q f') ∧ Hid (f' x2 = f x2) ∧ Hid (0 < q → ¬ KLt (x1, x2) (keyN L' (up q))) ∧ Hid (wr.heap[B]? = some (.cells #[.int .u64 x1, .int .i64 x2] 71 (0, 0))) ∧ Hid (Turned X w wr)) (fun a _ => 5000 - (intOf a).toNat)
  case atStart => exact ⟨p, L, f, rfl, H0, O0, Lib.hid rfl, U0, HK0, T0'⟩
  case round =>
    obtain ⟨q, L', f', rfl, HH, HO, HE, HU, HK, HT⟩ := hrel
    have hlen : L'.length ≤ 5000 := by rw [HO.out.len]; exact hL
    have hql := HO.out.ord.lt
    have HL0 := Lib.hid (low_any HH.out q hql hlen)
    have hcl := lowN_lt hql
    obtain ⟨c, hc⟩ : ∃ c, lowN L' q = c := ⟨_, rfl⟩
    rw [hc] at HL0 hcl
    have HC0 := Lib.hid hc
    clear hc
    go_wp2_with fail
    with_reducible refine HL0.out.mono ?_
    rintro e V ⟨rfl, t0⟩
    have H1 := Lib.hid (HH.out.keep t0 (by simp))
    have K1 := Lib.hid (t0.same HK.out (by simp))
    have T1 := Lib.hid (HT.out.trans t0.up (Newer.refl _ _))
    clear t0
    by_cases hcq : c = q
    · subst hcq
      have z1 : ((c : Int) == (c : Int)) = true := by simp
      go_wp2_with fail
      go_quiet (fail)
      go_wp2
      go_ret
      exact ⟨c, L', f', rfl, H1.out, HO.out, HE.out, HU.out, fun h => absurd HC0.out h, T1.out.drewN _⟩
    · have z1 : ((c : Int) == (q : Int)) = false := by simp; omega
      have hne : lowN L' q ≠ q := by rw [HC0.out]; exact hcq
      have hcgt : q < c := by rw [← HC0.out]; exact (lowN_up hne).2
      have hcup : up c = q := by rw [← HC0.out]; exact (lowN_up hne).1
      obtain ⟨aa, cap, c1, hr⟩ := HI.item H1.out
      obtain ⟨g, rfl, r0, r1⟩ := hr c hcl
      have hm := HM.out _ (HO.out.mem (j := c) hcl (by omega))
      have hkn := keyN_at (L := L') (i := c) hcl
      have hpl := HO.out.place.at_ c hcl (by omega)
      have hof := HO.out.place.off c hcl (by omega)
      have hri := HO.out.sink hne (by rw [HC0.out]; exact hcl)
      obtain ⟨⟨y1, y2, y3⟩, hy⟩ : ∃ y, L'[c] = y := ⟨_, rfl⟩
      simp only [HC0.out] at hri
      rw [hy] at r0 r1 hkn hm hri hpl hof
      simp only at r0 r1 hkn hm hri hpl hof
      have i0 : (0 : Int) ≤ c := by omega
      have i1 : (c : Int) < L'.length := by omega
      obtain ⟨V2, hV⟩ : ∃ V2, V.drew = V2 := ⟨_, rfl⟩
      have HC := Lib.hid (less_any y1 y2 x1 x2 V2)
      have HT0 : Hid (Turned [] V V2) := Lib.hid (hV ▸ (Turned.refl [] V).drew)
      have d1 : V2.cell? ⟨b, 1, none⟩ = some (.slice (some ⟨g, 0, none⟩) L'.length cap) := by rw [← hV]; exact c1
      have d2 : V2.cell? ⟨g, c * 2, none⟩ = some (.int .u64 y1) := by rw [← hV]; exact r0
      have d3 : V2.cell? ⟨g, c * 2 + 1, none⟩ = some (.int .i64 y2) := by rw [← hV]; exact r1
      obtain ⟨k0, k1, _⟩ := two_cells (HT0.out.same K1.out (by simp))
      obtain ⟨kb, hkb⟩ : ∃ kb : Bool, decide (KLt (y1, y2) (x1, x2)) = kb := ⟨_, rfl⟩
      rw [hkb] at HC
      have HKN := Lib.hid hkn
      have HRI := Lib.hid hri
      have HWm := Lib.hid hm
      have HKB := Lib.hid hkb
      have HY := Lib.hid hy
      have HP := Lib.hid hpl
      have HOff := Lib.hid hof
      clear hof
      have HUC := Lib.hid hcup
      clear hr hm hkn hri hkb hy c1 r0 r1 hpl hne hcup
      go_wp2_with fail
      refine tail_at 13 hV (by kernel_rfl) (by kernel_rfl) ?_
      clear hV
      simp only [List.take_succ_cons, List.take_zero, List.drop_succ_cons, List.drop_zero]
      repeat still_step
      refine wpStill_nil ?_
      go_wp2_with fail
      with_reducible refine HC.out.mono ?_
      rintro e V3 ⟨rfl, t2⟩
      have t3 := HT0.out.j t2
      have H2 := Lib.hid (H1.out.keep t3 (by simp))
      have K2 := Lib.hid (t3.same K1.out (by simp))
      have T2 := Lib.hid (T1.out.trans t3.up (Newer.refl _ _))
      clear t2 t3 d1 d2 d3 k0 k1
      cases kb with
      | false =>
        go_wp2
        go_ret
        refine ⟨q, L', f', rfl, H2.out, HO.out, HE.out, HU.out, fun _ => ?_, T2.out⟩
        rw [HC0.out, HKN.out]
        simpa using HKB.out
      | true =>
        obtain ⟨aa, cap2, c1, hr⟩ := HI.item H2.out
        obtain ⟨g2, rfl, r0, r1⟩ := hr c hcl
        rw [HY.out] at r0 r1
        simp only at r0 r1
        have HPut := Lib.hid (put_any H2.out q hql (y1, y2, y3) HWm.out (by omega) hs)
        clear hr
        go_wp2_with fail
        with_reducible refine HPut.out.mono ?_
        rintro e V4 ⟨rfl, h3, t3⟩
        have hsz : (if (f' y2).isSome then s else s + 1) = s := by rw [HP.out]; rfl
        simp only [hsz] at h3
        have H3 := Lib.hid h3
        have K3 := Lib.hid (t3.same K2.out hBX)
        have T3 := Lib.hid (T2.out.trans t3 (Newer.refl _ _))
        have U3 : Hid (0 < c → ¬ KLt (x1, x2) (keyN (L'.set q (y1, y2, y3)) (up c))) := Lib.hid (fun _ => by
          rw [HUC.out, keyN_same hql]
          exact KLt.asym (of_decide_eq_true HKB.out))
        clear h3 t3 hsz c1 r0 r1
        go_wp2
        go_roundw
        case rel => exact ⟨c, _, _, rfl, H3, HRI, Lib.hid ((updF_other (Ne.symm HOff.out)).trans HE.out), U3, K3, T3⟩
        case measure => simp [intOf]; omega

set_option maxRecDepth 100000 in
set_option maxHeartbeats 1600000 in
theorem settle_any {w : World} {b : Nat} {X : List Nat} {m : Int} {it : Hm Unit} {M L : List (Hm Unit)} {f : Int → Option Int} {s p : Nat} (h : HI w b X m L f s) (o : HoleOk it M L p f) (hM : WfM M) (hL : M.length ≤ 5000) (hs : s ≤ 5000) :
    Calls Try.prog 47 #[.pointer (some ⟨b, 0, none⟩), .int .i64 p, .agg #[.int .u64 it.1, .int .i64 it.2.1]] w fun e w' => e = .returned (.tuple #[]) ∧
      ∃ L' f', HI w' b X m L' f' (if (f it.2.1).isSome then s else s + 1) ∧ HeapOk M L' f' ∧ Turned X w w' := by
  obtain ⟨sz, hsz⟩ : ∃ sz, (if (f it.2.1).isSome then s else s + 1) = sz := ⟨_, rfl⟩
  rw [hsz]
  have HSZ := Lib.hid hsz
  clear hsz
  obtain ⟨W, hW⟩ : ∃ W, w.alloc (.cells #[.int .u64 it.1, .int .i64 it.2.1] tHi) = W := ⟨_, rfl⟩
  have T0 : Turned [] w W := hW ▸ (Turned.refl [] w).alloc _
  have K0 : W.heap[w.heap.size]? = some (.cells #[.int .u64 it.1, .int .i64 it.2.1] tHi (0, 0)) := hW ▸ heap_alloc_new w _
  have hlt := h.lt
  have hBX : w.heap.size ∉ X := fun hx => by have := hlt _ hx; omega
  have TV : Turned [] w W.drew := T0.drew
  have KV := ((Turned.refl [] W).drew : Turned [] W W.drew).same K0 (by simp)
  have HR := Lib.hid (risen_any (h.keep TV (by simp)) o hM hL hs)
  have HM := Lib.hid hM
  have hwi : (litN it.2.1).wf = true := by
    have := o.perm.mem_iff.1 (List.mem_iff_getElem.2 ⟨p, by simpa using o.ord.lt, by simp⟩ : it ∈ L.set p it)
    exact hM it this
  have HWi := Lib.hid hwi
  have HT := Lib.hid (TV.up : Turned X w W.drew)
  have HKV := Lib.hid KV
  obtain ⟨B, hB⟩ : ∃ B, w.heap.size = B := ⟨_, rfl⟩
  rw [hB] at HKV hBX
  clear h o hM T0 K0 hlt TV KV hwi
  obtain ⟨x1, x2, x3⟩ := it
  simp only at HKV hW HWi HR HSZ ⊢
  obtain ⟨j0, j1, _⟩ := two_cells HKV.out
  go_enter Try.func47, Try.ntmps47
  go_wp2_with fail
  go_region_held3 (fun w' => w'.cell? ⟨B, 0, none⟩ = some (.int .u64 x1) ∧ w'.cell? ⟨B, 1, none⟩ = some (.int .i64 x2) )
    (first | exact ⟨l0, l1⟩ | exact ⟨k0, k1⟩ | exact ⟨j0, j1⟩ | exact ⟨i0, i1⟩)
    (first
      | (go_at_call 67
         with_reducible refine HR.out.mono ?_
         rintro e V1 ⟨p1, L1, f1, rfl, h1, o1, e1, u1, t1⟩
         have KV1 := Lib.hid (t1.same HKV.out hBX)
         have HT1 := Lib.hid (HT.out.trans t1 (Newer.refl _ _))
         have HS := Lib.hid (sunk_any h1 o1 u1 HM.out hL hs)
         have HE1 := Lib.hid e1
         obtain ⟨k0, k1, _⟩ := two_cells KV1.out
         clear h1 o1 u1 t1 e1)
      | (go_at_call 66
         with_reducible refine HS.out.mono ?_
         rintro e V2 ⟨p2, L2, f2, rfl, h2, o2, e2, u2, v2, t2⟩
         have KV2 := Lib.hid (t2.same KV1.out hBX)
         have HT2 := Lib.hid (HT1.out.trans t2 (Newer.refl _ _))
         have HP := Lib.hid (put_any h2 p2 o2.ord.lt (x1, x2, x3) HWi.out (by rw [o2.len]; exact hL) hs)
         have HO := Lib.hid (o2.shut u2 v2)
         have HE := Lib.hid (e2.trans HE1.out)
         obtain ⟨l0, l1, _⟩ := two_cells KV2.out
         clear h2 o2 u2 v2 t2 e2)
      | (go_at_call 65
         with_reducible refine HP.out.mono ?_
         rintro e V3 ⟨rfl, h3, t3⟩
         obtain ⟨i0, i1, _⟩ := two_cells (t3.same KV2.out hBX)
         have HF := Lib.hid (And.intro h3 (HT2.out.trans t3 (Newer.refl _ _)))
         clear h3 t3))
  all_goals
    go_wp2
    go_end0
    obtain ⟨r1, r2⟩ := HF.out
    rw [HE.out, HSZ.out] at r1
    exact ⟨rfl, _, _, r1, HO.out, r2⟩
end Go.Proofs.Ytiffgkmmibhklaa.E
