/-
  The program's section.
-/
import Derived.Test.YtmcfjlkjijaflaaGreatDoorGAO
import Derived.Deep.RegionHeld3
namespace Go.Proofs.YtmcfjlkjijaflaaGreatDoor
open Go.RowKit

/-- What section's boxes hold. -/
structure SecJ (w wr : World) (i j : Nat) (lk t : Int) : Prop where
  res : wr.heap[w.heap.size]? = some (.cells #[.int .i64 0, .int .i64 0, .int .i64 0, .int .i64 0] 113 (0, 0))
  sec : wr.heap[w.heap.size + 1]? = some (.cells #[.int .i64 i, .int .i64 (j : Nat), .int .i64 lk, .int .i64 t] 113 (0, 0))
  bel : Below w.heap.size w wr
theorem SecJ.below {w wr wr' : World} {i j : Nat} {lk t : Int} (h : SecJ w wr i j lk t) (hb : Below wr.heap.size wr wr') : SecJ w wr' i j lk t :=
  ⟨(hb.block _ (lt_of_block h.res)).trans h.res, (hb.block _ (lt_of_block h.sec)).trans h.sec, h.bel.trans (hb.mono h.bel.size)⟩
theorem SecJ.next {w wr : World} {i j : Nat} {lk t : Int} (h : SecJ w wr i j lk t) : SecJ w (wr.setCell ⟨w.heap.size + 1, 1, none⟩ (.int .i64 ((j : Int) + 1))) i (j + 1) lk t := by
  rw [show (j : Int) + 1 = ((j + 1 : Nat) : Int) by omega]
  refine ⟨(Below.heap_setCell _ _ _ _ (by show w.heap.size ≠ w.heap.size + 1; omega)).trans h.res, ?_, h.bel.setCell (by show w.heap.size ≤ w.heap.size + 1; omega) _⟩
  rw [heap_setCell_same _ _ _ _ _ _ h.sec]
  rfl
theorem SecJ.more {w wr : World} {i j : Nat} {lk t : Int} (h : SecJ w wr i j lk t) (t' : Int) : SecJ w (wr.setCell ⟨w.heap.size + 1, 3, none⟩ (.int .i64 t')) i j lk t' := by
  refine ⟨(Below.heap_setCell _ _ _ _ (by show w.heap.size ≠ w.heap.size + 1; omega)).trans h.res, ?_, h.bel.setCell (by show w.heap.size ≤ w.heap.size + 1; omega) _⟩
  rw [heap_setCell_same _ _ _ _ _ _ h.sec]
  rfl
theorem SecJ.start (w : World) (i : Nat) (lk : Int) :
    SecJ w ((w.alloc (.cells #[.int .i64 0, .int .i64 0, .int .i64 0, .int .i64 0] 113)).alloc (.cells #[.int .i64 i, .int .i64 ((i + 1 : Nat) : Int), .int .i64 lk, .int .i64 0] 113)) i (i + 1) lk 0 := by
  have h1 := heap_alloc_new w (.cells #[.int .i64 0, .int .i64 0, .int .i64 0, .int .i64 0] 113)
  have h2 := heap_alloc_new (w.alloc (.cells #[.int .i64 0, .int .i64 0, .int .i64 0, .int .i64 0] 113)) (.cells #[.int .i64 i, .int .i64 ((i + 1 : Nat) : Int), .int .i64 lk, .int .i64 0] 113)
  simp only [World.size_alloc] at h2
  exact ⟨(Below.heap_alloc _ _ _ (by simp)).trans h1, h2, ((Below.refl _ w).alloc (Nat.le_refl _) _).alloc (by simp) _⟩
/-- .. answered. -/
theorem SecJ.fin {w wr : World} {i j : Nat} {lk t : Int} (h : SecJ w wr i j lk t) :
    ((((wr.setCell ⟨w.heap.size, 0, none⟩ (.int .i64 i)).setCell ⟨w.heap.size, 1, none⟩ (.int .i64 (j : Nat))).setCell ⟨w.heap.size, 2, none⟩ (.int .i64 lk)).setCell ⟨w.heap.size, 3, none⟩ (.int .i64 t)).heap[w.heap.size]? = some (.cells #[.int .i64 i, .int .i64 (j : Nat), .int .i64 lk, .int .i64 t] 113 (0, 0)) ∧
    Below w.heap.size w ((((wr.setCell ⟨w.heap.size, 0, none⟩ (.int .i64 i)).setCell ⟨w.heap.size, 1, none⟩ (.int .i64 (j : Nat))).setCell ⟨w.heap.size, 2, none⟩ (.int .i64 lk)).setCell ⟨w.heap.size, 3, none⟩ (.int .i64 t)) := by
  have hn : w.heap.size ≤ w.heap.size := Nat.le_refl _
  refine ⟨?_, (((h.bel.setCell (p := ⟨w.heap.size, 0, none⟩) hn _).setCell (p := ⟨w.heap.size, 1, none⟩) hn _).setCell (p := ⟨w.heap.size, 2, none⟩) hn _).setCell (p := ⟨w.heap.size, 3, none⟩) hn _⟩
  rw [heap_setCell_same _ _ _ _ _ _ (heap_setCell_same _ _ _ _ _ _ (heap_setCell_same _ _ _ _ _ _ (heap_setCell_same _ _ _ _ _ _ h.res)))]
  rfl
set_option maxRecDepth 100000 in
set_option maxHeartbeats 6400000 in
theorem csec_any (ao : Option Addr) (b off cap : Nat) (L : List Opn) (i : Nat) (w : World) (h : OArg w ao b off L) (hi : i < L.length) (hm : L.length ≤ 12) (ho : ∀ o ∈ L, opMay o = true) :
    Calls Tryz.prog 124 #[.slice ao L.length cap, .int .i64 i] w fun e w' => e = .returned (.agg #[.int .i64 i, .int .i64 (secR (L[i]).2.1 (L.drop (i + 1)) (i + 1) 0).1, .int .i64 (L[i]).2.1, .int .i64 (secR (L[i]).2.1 (L.drop (i + 1)) (i + 1) 0).2]) ∧ Below w.heap.size w w' := by
  have HA := Lib.hid h
  have HO := Lib.hid ho
  obtain ⟨rfl, hb⟩ := h.at_ (by omega)
  obtain ⟨-, y1, -⟩ := h.cells i hi
  obtain ⟨lk, hlk⟩ : ∃ lk, (L[i]).2.1 = lk := ⟨_, rfl⟩
  rw [hlk] at y1 ⊢
  obtain ⟨R, hR⟩ : ∃ R, secR lk (L.drop (i + 1)) (i + 1) 0 = R := ⟨_, rfl⟩
  have HR := Lib.hid hR
  rw [hR]
  have HS := SecJ.start w i lk
  have HE := Lib.hid (fun k a c V => cends_any k a c lk V)
  obtain ⟨n, hn⟩ : ∃ n, L.length = n := ⟨_, rfl⟩
  have HN := Lib.hid hn
  rw [hn] at hi hm ⊢
  have HS0 := Lib.hid HS
  have i0 : (0 : Int) ≤ i := by omega
  have i1 : (i : Int) < n := by omega
  have i2 : IntKind.i64.wrap ((i : Int) + 1) = ((i + 1 : Nat) : Int) := by rw [IntKind.wrap_i64]; omega
  clear h ho hlk hR hn HS
  go_enter Tryz.func124, Tryz.ntmps124
  go_wp2_with fail
  obtain ⟨W0, hW0⟩ : ∃ W0, (w.alloc (.cells #[.int .i64 0, .int .i64 0, .int .i64 0, .int .i64 0] 113)).alloc (.cells #[.int .i64 i, .int .i64 ((i : Int) + 1), .int .i64 lk, .int .i64 0] 113) = W0 := ⟨_, rfl⟩
  have HS1 := HS0.out
  rw [show ((i + 1 : Nat) : Int) = (i : Int) + 1 by omega, hW0] at HS1
  rw [hW0]
  have HS2 := Lib.hid HS1
  clear HS1 HS0 hW0 y1
  go_loopg [] (n - (i + 1)) (fun g wr => ∃ (j : Nat) (t : Int), g = n - j ∧ i + 1 ≤ j ∧ j ≤ n ∧ 0 ≤ t ∧ t ≤ 16 * j ∧ Hid (SecJ w wr i j lk t) ∧ Hid (R = secR lk (L.drop j) j t))
  case atStart => exact ⟨i + 1, 0, rfl, Nat.le_refl _, by omega, by omega, by omega, HS2, HR.out.symm⟩
  case round =>
    obtain ⟨j, t, rfl, hj1, hj2, ht1, ht2, HI, HJ⟩ := hrel
    have HB0 := Lib.hid ((Below.refl wr.heap.size wr).drew)
    obtain ⟨s0, s1, s2, s3, sf⟩ := four_cells (HI.out.below HB0.out).sec
    by_cases hlt : j < n
    · have hjL : j < L.length := by rw [HN.out]; exact hlt
      have hA := HA.out.below (HI.out.below HB0.out).bel
      obtain ⟨x0, x1, x2⟩ := hA.cells j hjL
      have hop := HO.out L[j] (List.getElem_mem _)
      obtain ⟨⟨k, a, c⟩, hx⟩ : ∃ x, L[j] = x := ⟨_, rfl⟩
      have hd : L.drop j = (k, a, c) :: L.drop (j + 1) := by rw [List.drop_eq_getElem_cons hjL, hx]
      have HD := Lib.hid hd
      rw [hx] at x0 x1 x2 hop
      simp only at x0 x1 x2
      have hbc : k = 1 → 1 ≤ a ∧ a ≤ 16 := by
        intro h1
        simp only [opMay, Bool.and_eq_true] at hop
        have ha := hop.2.1
        unfold aMay limR at ha
        rw [if_pos h1] at ha
        simpa using ha
      have HBC := Lib.hid hbc
      have j0 : (0 : Int) ≤ j := by omega
      have j1 : (j : Int) < n := by omega
      have j2 : IntKind.i64.wrap ((j : Int) + 1) = (j : Int) + 1 := by rw [IntKind.wrap_i64]; omega
      have HEJ := Lib.hid (fun V => HE.out k a c V)
      obtain ⟨q, hq⟩ : ∃ q, endCr lk (k, a, c) = q := ⟨_, rfl⟩
      rw [hq] at HEJ
      have HQ := Lib.hid hq
      have p0 := And.intro s1 (And.intro s2 (And.intro x0 (And.intro x1 x2)))
      have HST : Hid (∀ V, Below wr.heap.size wr V → V.cell? ⟨w.heap.size + 1, 1, none⟩ = some (.int .i64 (j : Nat)) ∧ V.cell? ⟨w.heap.size + 1, 2, none⟩ = some (.int .i64 lk) ∧ V.cell? ⟨b, off + j * 3, none⟩ = some (.int .i64 k) ∧ V.cell? ⟨b, off + j * 3 + 1, none⟩ = some (.int .i64 a) ∧ V.cell? ⟨b, off + j * 3 + 2, none⟩ = some (.int .i64 c)) := Lib.hid (by
        intro V hV
        obtain ⟨s0, s1, s2, s3, sf⟩ := four_cells (HI.out.below hV).sec
        have hA := HA.out.below (HI.out.below hV).bel
        obtain ⟨x0, x1, x2⟩ := hA.cells j hjL
        rw [hx] at x0 x1 x2
        exact ⟨s1, s2, x0, x1, x2⟩)
      clear hx hd hop hA sf hbc hq s0 s1 s2 s3 x0 x1 x2
      go_wp2_with fail
      go_region_held3 (fun V => V.cell? ⟨w.heap.size + 1, 1, none⟩ = some (.int .i64 (j : Nat)) ∧ V.cell? ⟨w.heap.size + 1, 2, none⟩ = some (.int .i64 lk) ∧ V.cell? ⟨b, off + j * 3, none⟩ = some (.int .i64 k) ∧ V.cell? ⟨b, off + j * 3 + 1, none⟩ = some (.int .i64 a) ∧ V.cell? ⟨b, off + j * 3 + 2, none⟩ = some (.int .i64 c))
        (first | exact p0 | exact p1)
        (first
          | (go_at_call 132
             with_reducible refine (HEJ.out _).mono ?_
             rintro r V1 ⟨rfl, hb⟩
             have HV1 := Lib.hid (HB0.out.trans (hb.mono HB0.out.size))
             have p1 := HST.out _ HV1.out
             clear hb))
      have HI1 := Lib.hid (HI.out.below HV1.out)
      have ls := lt_of_block HI1.out.sec
      obtain ⟨-, -, x0, x1, x2⟩ := p1
      obtain ⟨s0, s1, s2, s3, sf⟩ := four_cells HI1.out.sec
      obtain ⟨r0, r1, r2, r3, rf⟩ := four_cells HI1.out.res
      have rf0 := rf 0
      have rf1 := rf 1
      have rf2 := rf 2
      have rf3 := rf 3
      have sf1 := sf 1
      have sf3 := sf 3
      clear p0 rf sf
      cases q with
      | true =>
        have HRR : Hid (R = (j, t)) := Lib.hid (by rw [HJ.out, HD.out]; unfold secR; rw [if_pos HQ.out])
        go_wp2
        have hf := HI1.out.fin
        refine bodyPost_ret (sec_res rfl rfl hf.1) rfl ?_
        rw [HRR.out]
        exact ⟨rfl, hf.2⟩
      | false =>
        by_cases h1 : k = 1
        · subst h1
          have hb1 := HBC.out rfl
          have HJ2 : Hid (R = secR lk (L.drop (j + 1)) (j + 1) (t + a)) := Lib.hid (by rw [HJ.out, HD.out]; conv => { lhs; unfold secR }; rw [HQ.out, if_neg (by decide), if_pos rfl])
          have t2 : IntKind.i64.wrap (t + a) = t + a := by rw [IntKind.wrap_i64]; omega
          go_wp2_with fail
          go_region
          go_wp2
          go_roundg (n - (j + 1))
          case measure => omega
          case rel => exact ⟨j + 1, t + a, rfl, by omega, by omega, by omega, by omega, Lib.hid ((HI1.out.more (t + a)).next.below (Below.refl _ _).drew), HJ2⟩
        · have q1 : (k == 1) = false := by simpa using h1
          have HJ2 : Hid (R = secR lk (L.drop (j + 1)) (j + 1) t) := Lib.hid (by rw [HJ.out, HD.out]; conv => { lhs; unfold secR }; rw [HQ.out, if_neg (by decide), if_neg h1])
          go_wp2
          go_roundg (n - (j + 1))
          case measure => omega
          case rel => (first | with_reducible exact ⟨j + 1, t, rfl, by omega, by omega, ht1, by omega, Lib.hid HI1.out.next, HJ2⟩ | trace_state)
    · have hd0 : decide ((j : Int) < (n : Int)) = false := by
        rw [decide_eq_false_iff_not]
        omega
      have hd1 : decide (j < n) = false := decide_eq_false hlt
      have HRR : Hid (R = (j, t)) := Lib.hid (by rw [HJ.out, List.drop_of_length_le (by rw [HN.out]; omega)]; rfl)
      obtain ⟨r0, r1, r2, r3, rf⟩ := four_cells HI.out.res
      obtain ⟨s0, s1, s2, s3, -⟩ := four_cells HI.out.sec
      have rf0 := rf 0
      have rf1 := rf 1
      have rf2 := rf 2
      have rf3 := rf 3
      have HF := Lib.hid (fun nq => (HI.out.below (below_drewN (Below.refl _ wr) nq)).fin)
      clear rf sf
      go_wp2_with fail
      go_quiet (fail)
      go_wp2
      refine bodyPost_ret (sec_res rfl rfl (HF.out _).1) rfl ?_
      rw [HRR.out]
      exact ⟨rfl, (HF.out _).2⟩
end Go.Proofs.YtmcfjlkjijaflaaGreatDoor
