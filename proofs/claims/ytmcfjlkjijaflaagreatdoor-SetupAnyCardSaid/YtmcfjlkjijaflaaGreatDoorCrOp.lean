/-
  The program's checkOp: what is met first of an op.
-/
import Derived.Test.YtmcfjlkjijaflaaGreatDoorGAP
namespace Go.Proofs.YtmcfjlkjijaflaaGreatDoor
open Go.RowKit

theorem hold_13 {f : Bool} {n : Nat} {locks : List Lk} {progs : Int} {o : Opn} {L : List Opn} {i : Nat} (h : met4 locks.length progs o = false) (h3 : ¬ (o.1 = 3 ∧ (lockR locks o.2.1).1 = false)) (ht : takesR o = true)
    (hc : holdR f n (lockR locks o.2.1).2.2.1 (secR o.2.1 L (i + 1) 0) = false) : metR f n locks progs o L i = 13 := by
  refine met_13 h h3 ht ?_
  unfold holdR at hc
  simp at hc
  by_cases h1 : (secR o.2.1 L (i + 1) 0).2 < 1
  · exact .inl h1
  · by_cases h2 : (lockR locks o.2.1).2.2.1 < (secR o.2.1 L (i + 1) 0).2
    · exact .inr (.inl h2)
    · exact .inr (.inr (hc (by omega) (by omega)))
theorem hold_0 {f : Bool} {n : Nat} {locks : List Lk} {progs : Int} {o : Opn} {L : List Opn} {i : Nat} (h : met4 locks.length progs o = false) (h3 : ¬ (o.1 = 3 ∧ (lockR locks o.2.1).1 = false))
    (hc : holdR f n (lockR locks o.2.1).2.2.1 (secR o.2.1 L (i + 1) 0) = true) : metR f n locks progs o L i = 0 := by
  refine met_0 h h3 ?_
  unfold holdR at hc
  simp at hc
  rintro ⟨-, h4 | h4 | h4⟩
  · omega
  · omega
  · rcases hc.2.2 with h | h
    · rw [h4.1] at h
      exact absurd h (by decide)
    · exact h h4.2
set_option maxRecDepth 100000 in
set_option maxHeartbeats 6400000 in
theorem checkop_any (f : Bool) (ao : Option Addr) (b off cap : Nat) (L : List Opn) (i : Nat) (ao2 : Option Addr) (b2 off2 cap2 : Nat) (locks : List Lk) (progs : Int) (w : World) (h : OArg w ao b off L) (hl : LArg w ao2 b2 off2 locks) (hi : i < L.length) (hm : L.length ≤ 12) (ho : ∀ o ∈ L, opMay o = true) (hm2 : locks.length ≤ 100000) :
    Calls Tryz.prog 100 #[prgV f ao L.length cap, .int .i64 i, .slice ao2 locks.length cap2, .int .i64 progs] w fun e w' => e = .returned (.int .i64 (metR f L.length locks progs L[i] (L.drop (i + 1)) i)) ∧ Below w.heap.size w w' := by
  have HA := Lib.hid h
  have HL := Lib.hid hl
  obtain ⟨rfl, hbl⟩ := h.at_ (by omega)
  obtain ⟨x0, x1, x2⟩ := h.cells i hi
  have hop := ho L[i] (List.getElem_mem _)
  have HSEC := Lib.hid (fun V (hV : Below w.heap.size w V) crit => mayhold_any f (some ⟨b, off, none⟩) b off cap L i crit V (h.below hV) hi hm ho)
  obtain ⟨⟨k, a, c⟩, hx⟩ : ∃ x, L[i] = x := ⟨_, rfl⟩
  rw [hx] at x0 x1 x2 hop HSEC ⊢
  simp only at x0 x1 x2 HSEC
  obtain ⟨rest, hrest⟩ : ∃ r, L.drop (i + 1) = r := ⟨_, rfl⟩
  rw [hrest] at HSEC ⊢
  obtain ⟨n, hn⟩ : ∃ n, L.length = n := ⟨_, rfl⟩
  rw [hn] at hi hm HSEC ⊢
  obtain ⟨m, hmm⟩ : ∃ m, locks.length = m := ⟨_, rfl⟩
  have HM := Lib.hid hmm
  rw [hmm] at hm2 ⊢
  have HT := Lib.hid (fun V => there_any k a c progs m V)
  have HTK := Lib.hid (fun V => ctakes_any k a c V)
  obtain ⟨A, hA⟩ : ∃ A, metR f n locks progs (k, a, c) rest i = A := ⟨_, rfl⟩
  rw [hA]
  have HAA := Lib.hid hA
  have i0 : (0 : Int) ≤ i := by omega
  have i1 : (i : Int) < n := by omega
  have hla : met4 m progs (k, a, c) = false → takesR (k, a, c) = true → ∃ a' : Nat, a = a' ∧ a' < m := by
    intro h4 ht
    have h1 := (may_lock hop (.inl ht)).1
    obtain ⟨a', ha'⟩ := Int.eq_ofNat_of_zero_le h1
    simp only at ha'
    refine ⟨a', ha', ?_⟩
    simp only [met4, ht, Bool.true_or, Bool.true_and, Bool.or_eq_false_iff, decide_eq_false_iff_not] at h4
    omega
  have HLA := Lib.hid hla
  obtain ⟨W1, hW1⟩ : ∃ W1, (w.alloc (.cells #[.bool f, .slice (some ⟨b, off, none⟩) n cap] 51)).alloc (.cells #[.int .i64 k, .int .i64 a, .int .i64 c] 109) = W1 := ⟨_, rfl⟩
  have HK : Hid (CkO w W1 #[.bool f, .slice (some ⟨b, off, none⟩) n cap] (w.heap.size + 1) k a c) := Lib.hid (by
    have hb := ((Below.refl w.heap.size w).alloc (Nat.le_refl _) (.cells #[.bool f, .slice (some ⟨b, off, none⟩) n cap] 51)).alloc (by simp) (.cells #[.int .i64 k, .int .i64 a, .int .i64 c] 109)
    have h1 := heap_alloc_new w (.cells #[.bool f, .slice (some ⟨b, off, none⟩) n cap] 51)
    have h2 := heap_alloc_new (w.alloc (.cells #[.bool f, .slice (some ⟨b, off, none⟩) n cap] 51)) (.cells #[.int .i64 k, .int .i64 a, .int .i64 c] 109)
    rw [World.size_alloc] at h2
    rw [hW1] at hb h2
    refine ⟨?_, h2, hb⟩
    rw [← hW1]
    exact (Below.heap_alloc _ _ _ (by simp)).trans h1)
  have HW1 := Lib.hid hW1
  obtain ⟨N, hN⟩ : ∃ N, w.heap.size = N := ⟨_, rfl⟩
  have HNN := Lib.hid hN
  clear h hl ho hop hx hrest hn hmm hA hla hW1 hN
  cases h4 : met4 m progs (k, a, c) with
  | true =>
    have HE := Lib.hid (HAA.out.symm.trans (met_4 (by rw [HM.out]; exact h4)))
    simp only [h4] at HT
    clear h4
    go_enter Tryz.func100, Tryz.ntmps100
    go_wp2_with fail
    rw [HW1.out]
    with_reducible refine (HT.out _).mono ?_
    rintro e w2 ⟨rfl, hb2⟩
    have K2 := Lib.hid (HK.out.below hb2)
    clear hb2
    go_wp2
    go_ret
    rw [HE.out]
    exact ⟨rfl, K2.out.bel⟩
  | false =>
    have HLA2 := Lib.hid (HLA.out h4)
    have HM4 : Hid (met4 locks.length progs (k, a, c) = false) := Lib.hid (by rw [HM.out]; exact h4)
    simp only [h4] at HT
    clear h4
    cases ht : takesR (k, a, c) with
    | false =>
      have h3 : ¬ k = 3 := by
        rintro rfl
        simp [takesR] at ht
      have q3 : (k == 3) = false := by simpa using h3
      have HE := Lib.hid (HAA.out.symm.trans (met_0 HM4.out (fun h => h3 h.1) (fun h => by rw [ht] at h; exact absurd h.1 (by decide))))
      simp only [ht] at HTK
      clear ht
      go_enter Tryz.func100, Tryz.ntmps100
      go_wp2_with fail
      rw [HW1.out]
      with_reducible refine (HT.out _).mono ?_
      rintro e w2 ⟨rfl, hb2⟩
      have K2 := Lib.hid (HK.out.below hb2)
      obtain ⟨z0, z1, z2⟩ := op_cells K2.out.op
      clear hb2
      go_wp2_with fail
      have HB0 := Lib.hid ((Below.refl w2.heap.size w2).drew)
      have p0 := op_cells (K2.out.below HB0.out).op
      refine wp_region_noPanic ?_
      refine wp_region_held_drew (S := fun V => V.cell? ⟨w.heap.size + 1, 0, none⟩ = some (.int .i64 k) ∧ V.cell? ⟨w.heap.size + 1, 1, none⟩ = some (.int .i64 a) ∧ V.cell? ⟨w.heap.size + 1, 2, none⟩ = some (.int .i64 c)) (by kernel_rfl) p0 (fun hHeld => ?_)
      refine wpAnyH_take (i := 0) (v := ?_) rfl (by kernel_rfl) (by kernel_rfl) (by kernel_rfl) (fun _ _ _ h => h) (Or.inl ⟨by rfl, ?hy⟩) (by assumption) ?_
      case hy =>
        intro w hSw
        (try dsimp only at hSw)
        obtain ⟨s0, s1, s2⟩ := hSw
        go_simp
        try with_reducible rfl
      (try simp only [List.getElem_toArray])
      (try simp only [List.getElem_cons_succ])
      (try simp only [List.getElem_cons_zero])
      (try simp only [Act.put])
      (try simp only [List.setIfInBounds_toArray])
      (try simp only [List.set_cons_succ])
      (try simp only [List.set_cons_zero])
      refine wpAnyH_ready (rs := [1]) (by kernel_rfl) (by simp) ?_
      refine AllReadyH.cons rfl (fun K' hK => ?_) AllReadyH.nil
      go_simp
      with_reducible refine (HTK.out _).mono ?_
      rintro r V1 ⟨rfl, hb⟩
      have HV1 := Lib.hid (HB0.out.trans (hb.mono HB0.out.size))
      have p1 := op_cells (K2.out.below HV1.out).op
      clear hb
      refine hK.out _ _ ?_ (fun hHeld => ?_)
      · exact p1
      clear hK K'
      (try simp only [List.getElem_toArray])
      (try simp only [List.getElem_cons_succ])
      (try simp only [List.getElem_cons_zero])
      (try simp only [Act.put])
      (try simp only [List.setIfInBounds_toArray])
      (try simp only [List.set_cons_succ])
      (try simp only [List.set_cons_zero])
      refine wpAnyH_take (i := 2) (v := ?_) rfl (by kernel_rfl) (by kernel_rfl) (by kernel_rfl) (fun _ _ _ h => h) (Or.inl ⟨by rfl, ?hy⟩) (by assumption) ?_
      case hy =>
        intro w hSw
        (try dsimp only at hSw)
        obtain ⟨s0, s1, s2⟩ := hSw
        go_simp
        try with_reducible rfl
      (try simp only [List.getElem_toArray])
      (try simp only [List.getElem_cons_succ])
      (try simp only [List.getElem_cons_zero])
      (try simp only [Act.put])
      (try simp only [List.setIfInBounds_toArray])
      (try simp only [List.set_cons_succ])
      (try simp only [List.set_cons_zero])
      refine wpAnyH_take (i := 3) (v := undef) rfl (by kernel_rfl) (by kernel_rfl) (by kernel_rfl) (fun _ _ _ h => h) (Or.inr ⟨by rfl, rfl⟩) (by assumption) ?_
      (try simp only [List.getElem_toArray])
      (try simp only [List.getElem_cons_succ])
      (try simp only [List.getElem_cons_zero])
      (try simp only [Act.put])
      (try simp only [List.setIfInBounds_toArray])
      (try simp only [List.set_cons_succ])
      (try simp only [List.set_cons_zero])
      refine wpAnyH_take (i := 4) (v := undef) rfl (by kernel_rfl) (by kernel_rfl) (by kernel_rfl) (fun _ _ _ h => h) (Or.inr ⟨by rfl, rfl⟩) (by assumption) ?_
      (try simp only [List.getElem_toArray])
      (try simp only [List.getElem_cons_succ])
      (try simp only [List.getElem_cons_zero])
      (try simp only [Act.put])
      (try simp only [List.setIfInBounds_toArray])
      (try simp only [List.set_cons_succ])
      (try simp only [List.set_cons_zero])
      refine wpAnyH_take (i := 5) (v := undef) rfl (by kernel_rfl) (by kernel_rfl) (by kernel_rfl) (fun _ _ _ h => h) (Or.inr ⟨by rfl, rfl⟩) (by assumption) ?_
      (try simp only [List.getElem_toArray])
      (try simp only [List.getElem_cons_succ])
      (try simp only [List.getElem_cons_zero])
      (try simp only [Act.put])
      (try simp only [List.setIfInBounds_toArray])
      (try simp only [List.set_cons_succ])
      (try simp only [List.set_cons_zero])
      refine wpAnyH_take (i := 6) (v := undef) rfl (by kernel_rfl) (by kernel_rfl) (by kernel_rfl) (fun _ _ _ h => h) (Or.inr ⟨by rfl, rfl⟩) (by assumption) ?_
      (try simp only [List.getElem_toArray])
      (try simp only [List.getElem_cons_succ])
      (try simp only [List.getElem_cons_zero])
      (try simp only [Act.put])
      (try simp only [List.setIfInBounds_toArray])
      (try simp only [List.set_cons_succ])
      (try simp only [List.set_cons_zero])
      refine wpAnyH_take (i := 7) (v := undef) rfl (by kernel_rfl) (by kernel_rfl) (by kernel_rfl) (fun _ _ _ h => h) (Or.inr ⟨by rfl, rfl⟩) (by assumption) ?_
      (try simp only [List.getElem_toArray])
      (try simp only [List.getElem_cons_succ])
      (try simp only [List.getElem_cons_zero])
      (try simp only [Act.put])
      (try simp only [List.setIfInBounds_toArray])
      (try simp only [List.set_cons_succ])
      (try simp only [List.set_cons_zero])
      refine wpAnyH_take (i := 8) (v := undef) rfl (by kernel_rfl) (by kernel_rfl) (by kernel_rfl) (fun _ _ _ h => h) (Or.inr ⟨by rfl, rfl⟩) (by assumption) ?_
      (try simp only [List.getElem_toArray])
      (try simp only [List.getElem_cons_succ])
      (try simp only [List.getElem_cons_zero])
      (try simp only [Act.put])
      (try simp only [List.setIfInBounds_toArray])
      (try simp only [List.set_cons_succ])
      (try simp only [List.set_cons_zero])
      refine wpAnyH_take (i := 9) (v := undef) rfl (by kernel_rfl) (by kernel_rfl) (by kernel_rfl) (fun _ _ _ h => h) (Or.inr ⟨by rfl, rfl⟩) (by assumption) ?_
      (try simp only [List.getElem_toArray])
      (try simp only [List.getElem_cons_succ])
      (try simp only [List.getElem_cons_zero])
      (try simp only [Act.put])
      (try simp only [List.setIfInBounds_toArray])
      (try simp only [List.set_cons_succ])
      (try simp only [List.set_cons_zero])
      refine wpAnyH_take (i := 10) (v := undef) rfl (by kernel_rfl) (by kernel_rfl) (by kernel_rfl) (fun _ _ _ h => h) (Or.inr ⟨by rfl, rfl⟩) (by assumption) ?_
      (try simp only [List.getElem_toArray])
      (try simp only [List.getElem_cons_succ])
      (try simp only [List.getElem_cons_zero])
      (try simp only [Act.put])
      (try simp only [List.setIfInBounds_toArray])
      (try simp only [List.set_cons_succ])
      (try simp only [List.set_cons_zero])
      refine wpAnyH_take (i := 11) (v := undef) rfl (by kernel_rfl) (by kernel_rfl) (by kernel_rfl) (fun _ _ _ h => h) (Or.inr ⟨by rfl, rfl⟩) (by assumption) ?_
      (try simp only [List.getElem_toArray])
      (try simp only [List.getElem_cons_succ])
      (try simp only [List.getElem_cons_zero])
      (try simp only [Act.put])
      (try simp only [List.setIfInBounds_toArray])
      (try simp only [List.set_cons_succ])
      (try simp only [List.set_cons_zero])
      refine wpAnyH_take (i := 12) (v := undef) rfl (by kernel_rfl) (by kernel_rfl) (by kernel_rfl) (fun _ _ _ h => h) (Or.inr ⟨by rfl, rfl⟩) (by assumption) ?_
      (try simp only [List.getElem_toArray])
      (try simp only [List.getElem_cons_succ])
      (try simp only [List.getElem_cons_zero])
      (try simp only [Act.put])
      (try simp only [List.setIfInBounds_toArray])
      (try simp only [List.set_cons_succ])
      (try simp only [List.set_cons_zero])
      refine wpAnyH_take (i := 13) (v := ?_) rfl (by kernel_rfl) (by kernel_rfl) (by kernel_rfl) (fun _ _ _ h => h) (Or.inl ⟨by rfl, ?hy⟩) (by assumption) ?_
      case hy =>
        intro w hSw
        (try dsimp only at hSw)
        obtain ⟨s0, s1, s2⟩ := hSw
        go_simp
        try with_reducible rfl
      (try simp only [List.getElem_toArray])
      (try simp only [List.getElem_cons_succ])
      (try simp only [List.getElem_cons_zero])
      (try simp only [Act.put])
      (try simp only [List.setIfInBounds_toArray])
      (try simp only [List.set_cons_succ])
      (try simp only [List.set_cons_zero])
      refine wpAnyH_take (i := 14) (v := ?_) rfl (by kernel_rfl) (by kernel_rfl) (by kernel_rfl) (fun _ _ _ h => h) (Or.inl ⟨by rfl, ?hy⟩) (by assumption) ?_
      case hy =>
        intro w hSw
        (try dsimp only at hSw)
        obtain ⟨s0, s1, s2⟩ := hSw
        go_simp
        try with_reducible rfl
      (try simp only [List.getElem_toArray])
      (try simp only [List.getElem_cons_succ])
      (try simp only [List.getElem_cons_zero])
      (try simp only [Act.put])
      (try simp only [List.setIfInBounds_toArray])
      (try simp only [List.set_cons_succ])
      (try simp only [List.set_cons_zero])
      refine wpAnyH_done (by kernel_rfl) ?_ _
      refine NoPanic.normal ?_
      (try simp only [List.getElem_toArray])
      (try simp only [List.getElem_cons_succ])
      (try simp only [List.getElem_cons_zero])
      (try simp only [Act.put])
      (try simp only [List.setIfInBounds_toArray])
      (try simp only [List.set_cons_succ])
      (try simp only [List.set_cons_zero])
      go_wp2
      go_ret
      rw [HE.out]
      exact ⟨rfl, (K2.out.below HV1.out).bel⟩
    | true =>
      obtain ⟨a', rfl, ham⟩ := HLA2.out ht
      have hll : a' < locks.length := by rw [HM.out]; exact ham
      have HTT := Lib.hid ht
      simp only [ht] at HTK
      clear ht
      obtain ⟨⟨sh, sl, cr, rd, wt⟩, hlk⟩ : ∃ x, locks[a'] = x := ⟨_, rfl⟩
      have hLR : lockR locks (a' : Nat) = (sh, sl, cr, rd, wt) := (lock_at hll).trans hlk
      have HLR := Lib.hid hLR
      obtain ⟨rfl, hbl2⟩ := HL.out.at_ (by omega)
      have HST : Hid (∀ V, Below w.heap.size w V → V.cell? ⟨b2, off2 + a' * 5, none⟩ = some (.bool sh) ∧ V.cell? ⟨b2, off2 + a' * 5 + 2, none⟩ = some (.int .i64 cr)) := Lib.hid (by
        intro V hV
        obtain ⟨y0, -, y2, -, -⟩ := (HL.out.below hV).cells a' hll
        rw [hlk] at y0 y2
        exact ⟨y0, y2⟩)
      have HSC := Lib.hid (fun V hV => HSEC.out V hV cr)
      have a0 : (0 : Int) ≤ a' := by omega
      have a1 : (a' : Int) < m := by omega
      obtain ⟨q, hq⟩ : ∃ q, holdR f n cr (secR (a' : Nat) rest (i + 1) 0) = q := ⟨_, rfl⟩
      have HQ := Lib.hid hq
      simp only [hq] at HSC
      clear hlk hLR hq hll ham
      by_cases h3 : k = 3
      · subst h3
        cases sh with
        | false =>
          have HE := Lib.hid (HAA.out.symm.trans (met_1 HM4.out rfl (by rw [HLR.out])))
          go_enter Tryz.func100, Tryz.ntmps100
          go_wp2_with fail
          rw [HW1.out]
          with_reducible refine (HT.out _).mono ?_
          rintro e w2 ⟨rfl, hb2⟩
          have K2 := Lib.hid (HK.out.below hb2)
          obtain ⟨z0, z1, z2⟩ := op_cells K2.out.op
          obtain ⟨y0, y2⟩ := HST.out _ K2.out.bel
          clear hb2
          go_wp2
          go_ret
          rw [HE.out]
          exact ⟨rfl, K2.out.bel⟩
        | true =>
          have HE : Hid (A = if q then 0 else 13) := Lib.hid (by
            cases q with
            | true => exact HAA.out.symm.trans (hold_0 HM4.out (fun h => by rw [HLR.out] at h; exact absurd h.2 (by simp)) (by rw [HLR.out]; exact HQ.out))
            | false => exact HAA.out.symm.trans (hold_13 HM4.out (fun h => by rw [HLR.out] at h; exact absurd h.2 (by simp)) HTT.out (by rw [HLR.out]; exact HQ.out)))
          go_enter Tryz.func100, Tryz.ntmps100
          go_wp2_with fail
          rw [HW1.out]
          with_reducible refine (HT.out _).mono ?_
          rintro e w2 ⟨rfl, hb2⟩
          have K2 := Lib.hid (HK.out.below hb2)
          obtain ⟨z0, z1, z2⟩ := op_cells K2.out.op
          obtain ⟨y0, y2⟩ := HST.out _ K2.out.bel
          clear hb2
          go_wp2_with fail
          have HB0 := Lib.hid ((Below.refl w2.heap.size w2).drew)
          have HSV : Hid (∀ V, Below w2.heap.size w2 V → V.cell? ⟨w.heap.size, 0, none⟩ = some (.bool f) ∧ V.cell? ⟨w.heap.size, 1, none⟩ = some (.slice (some ⟨b, off, none⟩) n cap) ∧ V.cell? ⟨w.heap.size + 1, 0, none⟩ = some (.int .i64 3) ∧ V.cell? ⟨w.heap.size + 1, 1, none⟩ = some (.int .i64 (a' : Nat)) ∧ V.cell? ⟨w.heap.size + 1, 2, none⟩ = some (.int .i64 c) ∧ V.cell? ⟨b2, off2 + a' * 5 + 2, none⟩ = some (.int .i64 cr)) := Lib.hid (by
            intro V hV
            have hk := K2.out.below hV
            obtain ⟨z0, z1, z2⟩ := op_cells hk.op
            obtain ⟨e0, e1⟩ := two_cells hk.box
            exact ⟨e0, e1, z0, z1, z2, (HST.out _ hk.bel).2⟩)
          have p0 := HSV.out _ HB0.out
          go_region_held3 (fun V => V.cell? ⟨w.heap.size, 0, none⟩ = some (.bool f) ∧ V.cell? ⟨w.heap.size, 1, none⟩ = some (.slice (some ⟨b, off, none⟩) n cap) ∧ V.cell? ⟨w.heap.size + 1, 0, none⟩ = some (.int .i64 3) ∧ V.cell? ⟨w.heap.size + 1, 1, none⟩ = some (.int .i64 (a' : Nat)) ∧ V.cell? ⟨w.heap.size + 1, 2, none⟩ = some (.int .i64 c) ∧ V.cell? ⟨b2, off2 + a' * 5 + 2, none⟩ = some (.int .i64 cr))
            (first | exact p0 | exact p1 | exact p2)
            (first
              | (go_at_call 115
                 with_reducible refine (HTK.out _).mono ?_
                 rintro r V1 ⟨rfl, hb⟩
                 have HV1 := Lib.hid (HB0.out.trans (hb.mono HB0.out.size))
                 have p1 := HSV.out _ HV1.out
                 clear hb)
              | (go_at_call 116
                 with_reducible refine (HSC.out _ (K2.out.below HV1.out).bel).mono ?_
                 rintro r V2 ⟨rfl, hb⟩
                 have HV2 := Lib.hid (HV1.out.trans (hb.mono HV1.out.size))
                 have p2 := HSV.out _ HV2.out
                 clear hb))
          clear p0 p1 p2
          cases q with
          | true =>
            go_wp2
            go_ret
            rw [HE.out]
            exact ⟨rfl, (K2.out.below HV2.out).bel⟩
          | false =>
            go_wp2
            go_ret
            rw [HE.out]
            exact ⟨rfl, (K2.out.below HV2.out).bel⟩
      · have q3 : (k == 3) = false := by simpa using h3
        have HE : Hid (A = if q then 0 else 13) := Lib.hid (by
          cases q with
          | true => exact HAA.out.symm.trans (hold_0 HM4.out (fun h => h3 h.1) (by rw [HLR.out]; exact HQ.out))
          | false => exact HAA.out.symm.trans (hold_13 HM4.out (fun h => h3 h.1) HTT.out (by rw [HLR.out]; exact HQ.out)))
        go_enter Tryz.func100, Tryz.ntmps100
        go_wp2_with fail
        rw [HW1.out]
        with_reducible refine (HT.out _).mono ?_
        rintro e w2 ⟨rfl, hb2⟩
        have K2 := Lib.hid (HK.out.below hb2)
        obtain ⟨z0, z1, z2⟩ := op_cells K2.out.op
        obtain ⟨y0, y2⟩ := HST.out _ K2.out.bel
        clear hb2
        go_wp2_with fail
        have HB0 := Lib.hid ((Below.refl w2.heap.size w2).drew)
        have HSV : Hid (∀ V, Below w2.heap.size w2 V → V.cell? ⟨w.heap.size, 0, none⟩ = some (.bool f) ∧ V.cell? ⟨w.heap.size, 1, none⟩ = some (.slice (some ⟨b, off, none⟩) n cap) ∧ V.cell? ⟨w.heap.size + 1, 0, none⟩ = some (.int .i64 k) ∧ V.cell? ⟨w.heap.size + 1, 1, none⟩ = some (.int .i64 (a' : Nat)) ∧ V.cell? ⟨w.heap.size + 1, 2, none⟩ = some (.int .i64 c) ∧ V.cell? ⟨b2, off2 + a' * 5 + 2, none⟩ = some (.int .i64 cr)) := Lib.hid (by
          intro V hV
          have hk := K2.out.below hV
          obtain ⟨z0, z1, z2⟩ := op_cells hk.op
          obtain ⟨e0, e1⟩ := two_cells hk.box
          exact ⟨e0, e1, z0, z1, z2, (HST.out _ hk.bel).2⟩)
        have p0 := HSV.out _ HB0.out
        go_region_held3 (fun V => V.cell? ⟨w.heap.size, 0, none⟩ = some (.bool f) ∧ V.cell? ⟨w.heap.size, 1, none⟩ = some (.slice (some ⟨b, off, none⟩) n cap) ∧ V.cell? ⟨w.heap.size + 1, 0, none⟩ = some (.int .i64 k) ∧ V.cell? ⟨w.heap.size + 1, 1, none⟩ = some (.int .i64 (a' : Nat)) ∧ V.cell? ⟨w.heap.size + 1, 2, none⟩ = some (.int .i64 c) ∧ V.cell? ⟨b2, off2 + a' * 5 + 2, none⟩ = some (.int .i64 cr))
          (first | exact p0 | exact p1 | exact p2)
          (first
            | (go_at_call 115
               with_reducible refine (HTK.out _).mono ?_
               rintro r V1 ⟨rfl, hb⟩
               have HV1 := Lib.hid (HB0.out.trans (hb.mono HB0.out.size))
               have p1 := HSV.out _ HV1.out
               clear hb)
            | (go_at_call 116
               with_reducible refine (HSC.out _ (K2.out.below HV1.out).bel).mono ?_
               rintro r V2 ⟨rfl, hb⟩
               have HV2 := Lib.hid (HV1.out.trans (hb.mono HV1.out.size))
               have p2 := HSV.out _ HV2.out
               clear hb))
        clear p0 p1 p2
        cases q with
        | true =>
          go_wp2
          go_ret
          rw [HE.out]
          exact ⟨rfl, (K2.out.below HV2.out).bel⟩
        | false =>
          go_wp2
          go_ret
          rw [HE.out]
          exact ⟨rfl, (K2.out.below HV2.out).bel⟩
end Go.Proofs.YtmcfjlkjijaflaaGreatDoor
