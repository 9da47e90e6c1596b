/-
  The document's takes, Section.
-/
import Derived.Test.YtmcfjlkjijaflaaCrMath
import Derived.Test.YtmcfjlkjijaflaaRgMayL
import Derived.Deep.LoopGhost
namespace Go.Proofs.Ytmcfjlkjijaflaa
open Go.RowKit

theorem rtakes_any (k a c : Int) (w : World) : Calls Try.prog 17 #[.agg #[.int .i64 k, .int .i64 a, .int .i64 c]] w fun e w' => e = .returned (.bool (takesR (k, a, c))) ∧ Below w.heap.size w w' := by
  by_cases h2 : 2 ≤ k
  · by_cases h5 : k ≤ 5
    · have e : takesR (k, a, c) = true := by simp [takesR, h2, h5]
      rw [e]
      go_enter Try.func17, Try.ntmps17
      go_wp2
      go_ret
      exact ⟨by simp, (Below.refl _ w).alloc (Nat.le_refl _) _⟩
    · have e : takesR (k, a, c) = false := by simp [takesR, h5]
      rw [e]
      go_enter Try.func17, Try.ntmps17
      go_wp2
      go_ret
      exact ⟨by simp, (Below.refl _ w).alloc (Nat.le_refl _) _⟩
  · have e : takesR (k, a, c) = false := by simp [takesR, h2]
    rw [e]
    go_enter Try.func17, Try.ntmps17
    go_wp2
    go_ret
    exact ⟨by simp, (Below.refl _ w).alloc (Nat.le_refl _) _⟩
theorem four_cells {w : World} {B : Nat} {a b c d : Value} {t : TypeId} (h : w.heap[B]? = some (.cells #[a, b, c, d] t (0, 0))) :
    w.cell? ⟨B, 0, none⟩ = some a ∧ w.cell? ⟨B, 1, none⟩ = some b ∧ w.cell? ⟨B, 2, none⟩ = some c ∧ w.cell? ⟨B, 3, none⟩ = some d ∧ ∀ i, w.frozen? ⟨B, i, none⟩ = false :=
  ⟨by simp [World.cell?, h], by simp [World.cell?, h], by simp [World.cell?, h], by simp [World.cell?, h], fun i => frozen_of_row w B i _ t h⟩
/-- What Section's boxes hold. -/
structure SecI (w wr : World) (pv : Array Value) (i j : Nat) (lk t : Int) : Prop where
  box : wr.heap[w.heap.size]? = some (.cells pv 24 (0, 0))
  res : wr.heap[w.heap.size + 1]? = some (.cells #[.int .i64 0, .int .i64 0, .int .i64 0, .int .i64 0] 44 (0, 0))
  sec : wr.heap[w.heap.size + 2]? = some (.cells #[.int .i64 i, .int .i64 (j : Nat), .int .i64 lk, .int .i64 t] 44 (0, 0))
  bel : Below w.heap.size w wr
theorem SecI.below {w wr wr' : World} {pv : Array Value} {i j : Nat} {lk t : Int} (h : SecI w wr pv i j lk t) (hb : Below wr.heap.size wr wr') : SecI w wr' pv i j lk t :=
  ⟨(hb.block _ (lt_of_block h.box)).trans h.box, (hb.block _ (lt_of_block h.res)).trans h.res, (hb.block _ (lt_of_block h.sec)).trans h.sec, h.bel.trans (hb.mono h.bel.size)⟩
theorem SecI.next {w wr : World} {pv : Array Value} {i j : Nat} {lk t : Int} (h : SecI w wr pv i j lk t) : SecI w (wr.setCell ⟨w.heap.size + 2, 1, none⟩ (.int .i64 ((j + 1 : Nat) : Int))) pv i (j + 1) lk t := by
  refine ⟨(Below.heap_setCell _ _ _ _ (by show w.heap.size ≠ w.heap.size + 2; omega)).trans h.box, (Below.heap_setCell _ _ _ _ (by show w.heap.size + 1 ≠ w.heap.size + 2; omega)).trans h.res, ?_, h.bel.setCell (by show w.heap.size ≤ w.heap.size + 2; omega) _⟩
  rw [heap_setCell_same _ _ _ _ _ _ h.sec]
  rfl
theorem SecI.more {w wr : World} {pv : Array Value} {i j : Nat} {lk t : Int} (h : SecI w wr pv i j lk t) (t' : Int) : SecI w (wr.setCell ⟨w.heap.size + 2, 3, none⟩ (.int .i64 t')) pv i j lk t' := by
  refine ⟨(Below.heap_setCell _ _ _ _ (by show w.heap.size ≠ w.heap.size + 2; omega)).trans h.box, (Below.heap_setCell _ _ _ _ (by show w.heap.size + 1 ≠ w.heap.size + 2; omega)).trans h.res, ?_, h.bel.setCell (by show w.heap.size ≤ w.heap.size + 2; omega) _⟩
  rw [heap_setCell_same _ _ _ _ _ _ h.sec]
  rfl
theorem SecI.start (w : World) (pv : Array Value) (i : Nat) (lk : Int) :
    SecI w (((w.alloc (.cells pv 24)).alloc (.cells #[.int .i64 0, .int .i64 0, .int .i64 0, .int .i64 0] 44)).alloc (.cells #[.int .i64 i, .int .i64 ((i + 1 : Nat) : Int), .int .i64 lk, .int .i64 0] 44)) pv i (i + 1) lk 0 := by
  have h0 := heap_alloc_new w (.cells pv 24)
  have h1 := heap_alloc_new (w.alloc (.cells pv 24)) (.cells #[.int .i64 0, .int .i64 0, .int .i64 0, .int .i64 0] 44)
  have h2 := heap_alloc_new ((w.alloc (.cells pv 24)).alloc (.cells #[.int .i64 0, .int .i64 0, .int .i64 0, .int .i64 0] 44)) (.cells #[.int .i64 i, .int .i64 ((i + 1 : Nat) : Int), .int .i64 lk, .int .i64 0] 44)
  simp only [World.size_alloc] at h1 h2
  exact ⟨(Below.heap_alloc _ _ _ (by simp; omega)).trans ((Below.heap_alloc _ _ _ (by simp)).trans h0), (Below.heap_alloc _ _ _ (by simp)).trans h1, h2, (((Below.refl _ w).alloc (Nat.le_refl _) _).alloc (by simp) _).alloc (by simp; omega) _⟩
/-- .. answered. -/
theorem SecI.fin {w wr : World} {pv : Array Value} {i j : Nat} {lk t : Int} (h : SecI w wr pv i j lk t) :
    ((((wr.setCell ⟨w.heap.size + 1, 0, none⟩ (.int .i64 i)).setCell ⟨w.heap.size + 1, 1, none⟩ (.int .i64 (j : Nat))).setCell ⟨w.heap.size + 1, 2, none⟩ (.int .i64 lk)).setCell ⟨w.heap.size + 1, 3, none⟩ (.int .i64 t)).heap[w.heap.size + 1]? = some (.cells #[.int .i64 i, .int .i64 (j : Nat), .int .i64 lk, .int .i64 t] 44 (0, 0)) ∧
    Below w.heap.size w ((((wr.setCell ⟨w.heap.size + 1, 0, none⟩ (.int .i64 i)).setCell ⟨w.heap.size + 1, 1, none⟩ (.int .i64 (j : Nat))).setCell ⟨w.heap.size + 1, 2, none⟩ (.int .i64 lk)).setCell ⟨w.heap.size + 1, 3, none⟩ (.int .i64 t)) := by
  have hn : w.heap.size ≤ w.heap.size + 1 := Nat.le_succ _
  refine ⟨?_, (((h.bel.setCell (p := ⟨w.heap.size + 1, 0, none⟩) hn _).setCell (p := ⟨w.heap.size + 1, 1, none⟩) hn _).setCell (p := ⟨w.heap.size + 1, 2, none⟩) hn _).setCell (p := ⟨w.heap.size + 1, 3, none⟩) hn _⟩
  rw [heap_setCell_same _ _ _ _ _ _ (heap_setCell_same _ _ _ _ _ _ (heap_setCell_same _ _ _ _ _ _ (heap_setCell_same _ _ _ _ _ _ h.res)))]
  rfl
theorem SecI.fin2 {w wr : World} {pv : Array Value} {i j : Nat} {lk t : Int} (h : SecI w wr pv i j lk t) (X : Obj) :
    (((((wr.setCell ⟨w.heap.size + 1, 0, none⟩ (.int .i64 i)).setCell ⟨w.heap.size + 1, 1, none⟩ (.int .i64 (j : Nat))).setCell ⟨w.heap.size + 1, 2, none⟩ (.int .i64 lk)).setCell ⟨w.heap.size + 1, 3, none⟩ (.int .i64 t)).alloc X).heap[w.heap.size + 1]? = some (.cells #[.int .i64 i, .int .i64 (j : Nat), .int .i64 lk, .int .i64 t] 44 (0, 0)) ∧
    Below w.heap.size w (((((wr.setCell ⟨w.heap.size + 1, 0, none⟩ (.int .i64 i)).setCell ⟨w.heap.size + 1, 1, none⟩ (.int .i64 (j : Nat))).setCell ⟨w.heap.size + 1, 2, none⟩ (.int .i64 lk)).setCell ⟨w.heap.size + 1, 3, none⟩ (.int .i64 t)).alloc X) :=
  ⟨(Below.heap_alloc _ _ _ (lt_of_block h.fin.1)).trans h.fin.1, h.fin.2.alloc h.fin.2.size _⟩
theorem results_at {fn : Func} {p : Tmp} {ty : TypeId} (h : fn.results = #[.cell p ty]) (tmps : Array Value) (P : Program) (w : World) :
    (results fn tmps).run P w = ((asAddr (tmps.getD p undef)).run P w).andThen fun a w₁ => (loadVar ty a).run P w₁ := by
  simp only [results, h]
  simp [Sem.run_bind, Result.andThen]
theorem sec_res {fn : Func} {p : Tmp} (hf : fn.results = #[.cell p 44]) {tmps : Array Value} {w : World} {B : Nat} {a b c d : Value} (hp : tmps.getD p undef = .pointer (some ⟨B, 0, none⟩)) (h : w.heap[B]? = some (.cells #[a, b, c, d] 44 (0, 0))) :
    (results fn tmps).run Try.prog w = .ok (.agg #[a, b, c, d]) w := by
  obtain ⟨c0, c1, c2, c3, _⟩ := four_cells h
  rw [results_at hf, hp]
  simp [loadVar, go_sem, c0, c1, c2, c3]
set_option maxRecDepth 100000 in
set_option maxHeartbeats 3200000 in
theorem rsec_any (f : Bool) (ao : Option Addr) (b off cap : Nat) (L : List Opn) (i : Nat) (w : World) (h : OArg w ao b off L) (hi : i < L.length) (hm : L.length ≤ 12) (ho : ∀ o ∈ L, opMay o = true) :
    Calls Try.prog 18 #[prgV f ao L.length cap, .int .i64 i] w fun e w' => e = .returned (.agg #[.int .i64 i, .int .i64 (secR (L[i]).2.1 (L.drop (i + 1)) (i + 1) 0).1, .int .i64 (L[i]).2.1, .int .i64 (secR (L[i]).2.1 (L.drop (i + 1)) (i + 1) 0).2]) ∧ Below w.heap.size w w' := by
  have HA := Lib.hid h
  have HO := Lib.hid ho
  obtain ⟨rfl, hb⟩ := h.at_ (by omega)
  obtain ⟨-, y1, -⟩ := h.cells i hi
  obtain ⟨lk, hlk⟩ : ∃ lk, (L[i]).2.1 = lk := ⟨_, rfl⟩
  rw [hlk] at y1 ⊢
  obtain ⟨R, hR⟩ : ∃ R, secR lk (L.drop (i + 1)) (i + 1) 0 = R := ⟨_, rfl⟩
  have HR := Lib.hid hR
  rw [hR]
  have HS := SecI.start w #[.bool f, .slice (some ⟨b, off, none⟩) L.length cap] i lk
  obtain ⟨n, hn⟩ : ∃ n, L.length = n := ⟨_, rfl⟩
  have HN := Lib.hid hn
  rw [hn] at hi hm HS ⊢
  have HS0 := Lib.hid HS
  have i0 : (0 : Int) ≤ i := by omega
  have i1 : (i : Int) < n := by omega
  have i2 : IntKind.i64.wrap ((i : Int) + 1) = ((i + 1 : Nat) : Int) := by rw [IntKind.wrap_i64]; omega
  clear h ho hlk hR hn HS
  go_enter Try.func18, Try.ntmps18
  go_wp2_with fail
  obtain ⟨W0, hW0⟩ : ∃ W0, ((w.alloc (.cells #[.bool f, .slice (some ⟨b, off, none⟩) n cap] 24)).alloc (.cells #[.int .i64 0, .int .i64 0, .int .i64 0, .int .i64 0] 44)).alloc (.cells #[.int .i64 i, .int .i64 ((i : Int) + 1), .int .i64 lk, .int .i64 0] 44) = W0 := ⟨_, rfl⟩
  have HS1 := HS0.out
  rw [show ((i + 1 : Nat) : Int) = (i : Int) + 1 by omega, hW0] at HS1
  rw [hW0]
  have HS2 := Lib.hid HS1
  clear HS1 HS0 hW0 y1
  go_loopg [] (n - (i + 1)) (fun g wr => ∃ (j : Nat) (t : Int), g = n - j ∧ i + 1 ≤ j ∧ j ≤ n ∧ 0 ≤ t ∧ t ≤ 16 * j ∧ Hid (SecI w wr #[.bool f, .slice (some ⟨b, off, none⟩) n cap] i j lk t) ∧ Hid (R = secR lk (L.drop j) j t))
  case atStart => exact ⟨i + 1, 0, rfl, Nat.le_refl _, by omega, by omega, by omega, HS2, HR.out.symm⟩
  case round =>
    obtain ⟨j, t, rfl, hj1, hj2, ht1, ht2, HI, HJ⟩ := hrel
    obtain ⟨c0, c1⟩ := two_cells HI.out.box
    obtain ⟨s0, s1, s2, s3, sf⟩ := four_cells HI.out.sec
    obtain ⟨r0, r1, r2, r3, rf⟩ := four_cells HI.out.res
    have rf0 := rf 0
    have rf1 := rf 1
    have rf2 := rf 2
    have rf3 := rf 3
    by_cases hlt : j < n
    · have hjL : j < L.length := by rw [HN.out]; exact hlt
      have hA := HA.out.below HI.out.bel
      obtain ⟨x0, x1, x2⟩ := hA.cells j hjL
      have hbl := (hA.at_ (by omega)).2
      have hop := HO.out L[j] (List.getElem_mem _)
      obtain ⟨⟨k, a, c⟩, hx⟩ : ∃ x, L[j] = x := ⟨_, rfl⟩
      have hd : L.drop j = (k, a, c) :: L.drop (j + 1) := by rw [List.drop_eq_getElem_cons hjL, hx]
      have HD := Lib.hid hd
      rw [hx] at x0 x1 x2 hop
      simp only at x0 x1 x2
      have hbc : k = 1 → 1 ≤ a ∧ a ≤ 16 := by
        intro h1
        simp only [opMay, Bool.and_eq_true] at hop
        have ha := hop.2.1
        unfold aMay limR at ha
        rw [if_pos h1] at ha
        simpa using ha
      have HX := Lib.hid (heap_alloc_new wr (.cells #[.int .i64 k, .int .i64 a, .int .i64 c] 38))
      have HI2 := Lib.hid (HI.out.below ((Below.refl _ wr).alloc (Nat.le_refl _) (.cells #[.int .i64 k, .int .i64 a, .int .i64 c] 38)))
      have lb := lt_of_block HI.out.box
      have ls := lt_of_block HI.out.sec
      have lr := lt_of_block HI.out.res
      have sf1 := sf 1
      have sf3 := sf 3
      have j0 : (0 : Int) ≤ j := by omega
      have j1 : (j : Int) < n := by omega
      have j2 : IntKind.i64.wrap ((j : Int) + 1) = (j : Int) + 1 := by rw [IntKind.wrap_i64]; omega
      clear hx hd hop hA sf rf
      by_cases h11 : k = 11
      · subst h11
        have HRR : Hid (R = (j, t)) := Lib.hid (by rw [HJ.out, HD.out]; unfold secR; rw [if_pos (by simp [endCr])])
        go_wp2
        have hf := HI.out.fin2 (.cells #[.int .i64 11, .int .i64 a, .int .i64 c] 38)
        refine bodyPost_ret (sec_res rfl rfl hf.1) rfl ?_
        rw [HRR.out]
        exact ⟨rfl, hf.2⟩
      · have q11 : (k == 11) = false := by simpa using h11
        by_cases h6 : k = 6
        · subst h6
          by_cases hal : a = lk
          · subst hal
            have HRR : Hid (R = (j, t)) := Lib.hid (by rw [HJ.out, HD.out]; unfold secR; rw [if_pos (by simp [endCr])])
            go_wp2
            have hf := HI.out.fin2 (.cells #[.int .i64 6, .int .i64 a, .int .i64 c] 38)
            refine bodyPost_ret (sec_res rfl rfl hf.1) rfl ?_
            rw [HRR.out]
            exact ⟨rfl, hf.2⟩
          · have qal : (a == lk) = false := by simpa using hal
            have HJ2 : Hid (R = secR lk (L.drop (j + 1)) (j + 1) t) := Lib.hid (by rw [HJ.out, HD.out]; conv => { lhs; unfold secR }; rw [if_neg (by simp [endCr, hal]), if_neg (by simp)])
            go_wp2
            go_roundg (n - (j + 1))
            case measure => omega
            case rel => (first | with_reducible exact ⟨j + 1, t, rfl, by omega, by omega, ht1, by omega, Lib.hid (HI.out.next.below ((Below.refl _ _).alloc (Nat.le_refl _) (.cells #[.int .i64 6, .int .i64 a, .int .i64 c] 38))), HJ2⟩ | trace_state)
        · have q6 : (k == 6) = false := by simpa using h6
          by_cases h1 : k = 1
          · subst h1
            have hb1 := hbc rfl
            have HJ2 : Hid (R = secR lk (L.drop (j + 1)) (j + 1) (t + a)) := Lib.hid (by rw [HJ.out, HD.out]; conv => { lhs; unfold secR }; rw [if_neg (by simp [endCr]), if_pos rfl])
            have t2 : IntKind.i64.wrap (t + a) = t + a := by rw [IntKind.wrap_i64]; omega
            go_wp2
            go_roundg (n - (j + 1))
            case measure => omega
            case rel => (first | with_reducible exact ⟨j + 1, t + a, rfl, by omega, by omega, by omega, by omega, Lib.hid ((HI.out.more (t + a)).next.below ((Below.refl _ _).alloc (Nat.le_refl _) (.cells #[.int .i64 1, .int .i64 a, .int .i64 c] 38))), HJ2⟩ | trace_state)
          · have q1 : (k == 1) = false := by simpa using h1
            have HJ2 : Hid (R = secR lk (L.drop (j + 1)) (j + 1) t) := Lib.hid (by rw [HJ.out, HD.out]; conv => { lhs; unfold secR }; rw [if_neg (by simp [endCr, h11, h6]), if_neg h1])
            go_wp2
            go_roundg (n - (j + 1))
            case measure => omega
            case rel => (first | with_reducible exact ⟨j + 1, t, rfl, by omega, by omega, ht1, by omega, Lib.hid (HI.out.next.below ((Below.refl _ _).alloc (Nat.le_refl _) (.cells #[.int .i64 k, .int .i64 a, .int .i64 c] 38))), HJ2⟩ | trace_state)
    · obtain rfl : j = n := by omega
      have HRR : Hid (R = (j, t)) := Lib.hid (by rw [HJ.out, List.drop_of_length_le (by rw [HN.out]; exact Nat.le_refl _)]; rfl)
      go_wp2
      have hf := HI.out.fin
      refine bodyPost_ret (sec_res rfl rfl hf.1) rfl ?_
      rw [HRR.out]
      exact ⟨rfl, hf.2⟩
end Go.Proofs.Ytmcfjlkjijaflaa
