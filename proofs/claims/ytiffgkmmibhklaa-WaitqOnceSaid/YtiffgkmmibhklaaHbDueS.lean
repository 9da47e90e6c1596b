/-
  A heap's Due, the state told at each yield (element type struct{}; out of XHbDueE).
-/
import Derived.Test.YtiffgkmmibhklaaHbDueE
import Derived.Test.YtiffgkmmibhklaaGA
namespace Go.Proofs.Ytiffgkmmibhklaa.E
open Go.RowKit Go.Maps

set_option maxRecDepth 100000 in
set_option maxHeartbeats 1600000 in
theorem due1_seqS {n : Nat} (hn : 1 ≤ n) {w : World} {b B0 B1 : Nat} {X : List Nat} {m u : Int} {D : List (Hm Unit)} (h : HpC w b X m D) (h0 : w.heap[B0]? = some (.cells #[.pointer (some ⟨b, 0, none⟩)] tPh (0, 0))) (h1 : w.heap[B1]? = some (.cells #[.int .u64 u] 30 (0, 0)))
    (hX0 : B0 ∉ X) (hX1 : B1 ∉ X) :
    TurnSeqS Fence.wide n Try.prog 55 #[.pointer (some ⟨B0, 0, none⟩), .pointer (some ⟨B1, 0, none⟩)] encD X (B0 :: B1 :: X) (fun xs W => ∃ D', Pops u D xs D' ∧ HpC W b X m D')
      (fun xs W => ∃ D', Pops u D xs D' ∧ HpC W b X m D' ∧ ∀ y ∈ D', u < y.1) (fun xs W => ∃ D', Pops u D xs D' ∧ HpC W b X m D') w := by
  intro l J Jx W hW hJ hY hj0
  have hC := h.keep hW (by simp)
  have b0 := hW.same h0 (by simp)
  have b1 := hW.same h1 (by simp)
  have HJ := Lib.hid hJ
  have HY := Lib.hid hY
  clear hJ hY h h0 h1
  refine callsIn_of_wp Try.func55 rfl trivial ?_ rfl
  simp only [Try.ntmps55, List.size_toArray, List.length_cons, List.length_nil, Nat.reduceAdd, Nat.reduceSub, Array.replicate_succ, Array.replicate_zero, List.push_toArray, List.append_toArray, List.nil_append, List.cons_append]
  gi_wp2
  gi_loopg [] D.length (fun g wr => ∃ pre D', g = D'.length ∧ Hid (Pops u D pre D') ∧ Hid (HpC wr b X m D') ∧ Hid (J pre wr) ∧ Hid (wr.heap[B0]? = some (.cells #[.pointer (some ⟨b, 0, none⟩)] tPh (0, 0))) ∧ Hid (wr.heap[B1]? = some (.cells #[.int .u64 u] 30 (0, 0))))
  case atStart => exact ⟨[], D, rfl, Lib.hid .none, Lib.hid hC, Lib.hid hj0, Lib.hid b0, Lib.hid b1⟩
  case round =>
    obtain ⟨pre, D', rfl, HP, HC, HJ0, HB0, HB1⟩ := hrel
    have c0 := one_cell' HB0.out
    have c1 := one_cell' HB1.out
    by_cases hd : D'.length = 0
    · obtain rfl : D' = [] := List.eq_nil_of_length_eq_zero hd
      have HI := Lib.hid (show Calls Try.prog 56 #[.pointer (some ⟨b, 0, none⟩), .int .u64 u] wr _ from isDue_none (w := wr) (some b) (by rintro k ⟨⟩; exact ⟨X, m, HC.out⟩) u)
      gi_wp2_with fail
      refine ⟨trivial, ?_⟩
      with_reducible refine (callsIn_wide.2 HI.out).mono ?_
      rintro e V ⟨rfl, t1⟩
      have HCV := Lib.hid (HC.out.keep t1 (by simp))
      have HJV := Lib.hid (HJ.out _ _ _ HJ0.out t1.up)
      clear t1 c0 c1 hd
      gi_wp2
      go_end0
      exact ⟨⟨_, rfl⟩, .inl ⟨_, ⟨[], HP.out, HCV.out, by simp⟩, HJV.out⟩⟩
    · have hd' : 0 < D'.length := by omega
      have HI := Lib.hid (isDue_some HC.out hd' u)
      gi_wp2_with fail
      refine ⟨trivial, ?_⟩
      with_reducible refine (callsIn_wide.2 HI.out).mono ?_
      rintro e V ⟨⟨x1, x2, x3⟩, rfl, hx, hl, t1⟩
      have HCV := Lib.hid (HC.out.keep t1 (by simp))
      have HJV := Lib.hid (HJ.out _ _ _ HJ0.out t1.up)
      have v0 := t1.same HB0.out (by simp)
      have v1 := t1.same HB1.out (by simp)
      have HV0 := Lib.hid v0
      have HV1 := Lib.hid v1
      have HL := Lib.hid hl
      have HXm := Lib.hid hx
      clear t1 c0 c1 hx hl hd
      by_cases hu : x1 ≤ u
      · have z1 : decide (x1 ≤ u) = true := by simpa using hu
        have c0 := one_cell' v0
        have HPop := Lib.hid (pop_some HCV.out hd')
        clear v0 v1
        gi_wp2_with fail
        refine ⟨trivial, ?_⟩
        with_reducible refine (callsIn_wide.2 HPop.out).mono ?_
        rintro e V2 ⟨⟨y1, y2, y3⟩, D'', rfl, hpm, hly, hc2, t2⟩
        have hyu : y1 ≤ u := by
          have h1 := hly (x1, x2, x3) HXm.out
          unfold KLt at h1
          simp only at h1
          omega
        have HCx := Lib.hid hc2
        have HPx := Lib.hid (Pops.more HP.out hpm hly hyu)
        have hlen := hpm.length_eq
        simp only [List.length_cons] at hlen
        have w0 := t2.same HV0.out hX0
        have w1 := t2.same HV1.out hX1
        obtain ⟨V3, hV3⟩ : ∃ V3, (V2.alloc (.cells #[.int .u64 y1, .int .i64 y2] tKy)).alloc (.cells #[] tEm) = V3 := ⟨_, rfl⟩
        have t3 : Turned [] V2 V3 := hV3 ▸ ((Turned.refl [] V2).alloc _).alloc _
        have HB0' := Lib.hid (t3.same w0 (by simp))
        have HB1' := Lib.hid (t3.same w1 (by simp))
        have HCC := Lib.hid (hc2.keep t3 (by simp))
        obtain ⟨k0, k1, _⟩ := two_cells (hV3 ▸ (Below.heap_alloc _ _ _ (by simp)).trans (heap_alloc_new V2 _) : V3.heap[V2.heap.size]? = some (.cells #[.int .u64 y1, .int .i64 y2] tKy (0, 0)))
        have HJ3 := HJ.out _ _ _ (HJ.out _ _ _ HJV.out t2) t3.up
        obtain ⟨fn, tmps, assign, body, hy, hR⟩ := HY.out pre (y1, y2, y3) V3 HJ3 ⟨D'', HPx.out, HCC.out⟩
        clear hpm hly hc2 t2 t3 w0 w1 c0 HJ3
        gi_wp2_with fail
        refine hR.mono ?_
        rintro e V4 ⟨hs, hz, ⟨rfl, hj4⟩ | ⟨rfl, hx4⟩⟩
        · have HC4 := Lib.hid (HCC.out.at_ (fun k hk => hs k (by simp [hk])))
          have HJ4 := Lib.hid hj4
          have H40 := Lib.hid ((hs B0 (by simp)).trans HB0'.out)
          have H41 := Lib.hid ((hs B1 (by simp)).trans HB1'.out)
          clear hs hz hj4 k0 k1
          gi_wp2
          gi_roundg (D''.length)
          case measure => omega
          case rel => exact ⟨_, D'', rfl, HPx, HC4, HJ4, H40, H41⟩
        · have HC4 := Lib.hid (HCC.out.at_ (fun k hk => hs k (by simp [hk])))
          have HX4 := Lib.hid hx4
          clear hs hz hx4 k0 k1
          gi_wp2
          refine bodyPost_ret (results_none rfl _ _ _) rfl ?_
          exact ⟨⟨_, rfl⟩, .inr ⟨_, ⟨D'', HPx.out, HC4.out⟩, HX4.out⟩⟩
      · have z1 : decide (x1 ≤ u) = false := by simpa using hu
        have hall : ∀ y ∈ D', u < y.1 := by
          intro y hy
          have h1 := HL.out y hy
          unfold KLt at h1
          simp only at h1
          omega
        have HA := Lib.hid hall
        clear hall v0 v1
        gi_wp2
        go_end0
        exact ⟨⟨_, rfl⟩, .inl ⟨_, ⟨D', HP.out, HCV.out, fun a b c h => HA.out (a, b, c) h⟩, HJV.out⟩⟩
end Go.Proofs.Ytiffgkmmibhklaa.E
