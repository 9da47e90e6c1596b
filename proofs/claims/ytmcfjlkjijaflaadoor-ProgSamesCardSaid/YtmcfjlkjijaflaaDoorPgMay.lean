/-
  The program's May.
-/
import Derived.Test.YtmcfjlkjijaflaaDoorPgEach
namespace Go.Proofs.YtmcfjlkjijaflaaDoor
open Go.RowKit Go.Maps Go.Shelf
attribute [local go_sem] Oper.semAt_some

/-- The box of May's answer, while its loop runs. -/
structure MayB (w W : World) (N : Nat) : Prop where
  res : W.heap[w.heap.size + 1]? = some (.cells #[.bool false] 4 (0, 0))
  t : Turned [] w W
  z : N ≤ W.heap.size
theorem MayB.mild {w W W' : World} {N N' : Nat} (h : MayB w W N) (m : Mild [] N' W W') (hN : w.heap.size ≤ N') : MayB w W' N :=
  ⟨m.cells h.res (by simp), h.t.mild m hN (by simp), Nat.le_trans h.z m.size⟩
theorem MayB.below {w W W' : World} {N : Nat} (h : MayB w W N) (hb : Below W.heap.size W W') : MayB w W' N :=
  ⟨(hb.block _ (lt_of_block h.res)).trans h.res, h.t.trans (turned_below0 hb) (Newer.refl _ _), Nat.le_trans h.z hb.size⟩
theorem keeps_below {n : Nat} {A B : World} (h : Below A.heap.size A B) : KeepsFrom n A B :=
  ⟨h.size, fun _ _ _ hk _ => (h.block _ (lt_of_block hk)).trans hk⟩
theorem zip_may {L : List Opn} {pre : List (Opn × Nat)} (h : pre <+: L.zipIdx) : ∀ x ∈ pre, x.1 ∈ L := by
  intro x hx
  have h2 := h.subset hx
  exact (List.mem_zipIdx' h2).2 ▸ List.getElem_mem _
theorem may_out (w : World) (f : Bool) (ao : Option Addr) (n cap : Nat) :
    ((w.alloc (.cells #[.bool f, .slice ao n cap] 24)).alloc (.cells #[.bool false] 4)).heap[w.heap.size + 1]? = some (.cells #[.bool false] 4 (0, 0)) ∧
    Below w.heap.size w ((w.alloc (.cells #[.bool f, .slice ao n cap] 24)).alloc (.cells #[.bool false] 4)) := by
  have hz := heap_alloc_new (w.alloc (.cells #[.bool f, .slice ao n cap] 24)) (.cells #[.bool false] 4)
  rw [World.size_alloc] at hz
  exact ⟨hz, ((Below.refl _ w).alloc (Nat.le_refl _) _).alloc (by simp) _⟩
theorem zip_mem {L : List Opn} {x : Opn} (h : x ∈ L) : ∃ j, (x, j) ∈ L.zipIdx := by
  obtain ⟨i, hi, rfl⟩ := List.getElem_of_mem h
  refine ⟨i, ?_⟩
  have h2 : L.zipIdx[i]'(by rw [List.length_zipIdx]; exact hi) = (L[i], i) := by
    rw [List.getElem_zipIdx]
    simp
  rw [← h2]
  exact List.getElem_mem _
/-- What the answer's box holds behind the loop's end. -/
theorem MayB.fin {w W : World} {N D : Nat} (h : MayB w W N) (hN : w.heap.size + 2 ≤ D) (hK : W.heap[D]? = some (.deferred (some []))) (q : Bool) :
    (W.setCell ⟨w.heap.size + 1, 0, none⟩ (.bool q)).heap[D]? = some (.deferred (some [])) ∧
    (∀ o, ((W.setCell ⟨w.heap.size + 1, 0, none⟩ (.bool q)).putObj D o).heap[w.heap.size + 1]? = some (.cells #[.bool q] 4 (0, 0)) ∧
    Below w.heap.size w ((W.setCell ⟨w.heap.size + 1, 0, none⟩ (.bool q)).putObj D o)) := by
  have hne : D ≠ w.heap.size + 1 := by omega
  refine ⟨(Below.heap_setCell _ _ _ _ hne).trans hK, fun o => ⟨?_, ?_⟩⟩
  · rw [World.putObj_heap_other (Ne.symm hne), heap_setCell_same _ _ _ _ _ _ h.res]
    rfl
  · exact ((h.t.setCell (.inr (by show w.heap.size ≤ w.heap.size + 1; omega)) _).put (by omega) o).below (by simp) (Nat.le_refl _)
theorem MayB.set {w W : World} {N : Nat} (h : MayB w W N) : MayB w (W.setCell ⟨w.heap.size + 1, 0, none⟩ (.bool false)) N := by
  refine ⟨?_, h.t.setCell (.inr (by show w.heap.size ≤ w.heap.size + 1; omega)) _, by simpa [World.setCell] using h.z⟩
  rw [heap_setCell_same _ _ _ _ _ _ h.res]
  rfl
set_option maxRecDepth 100000 in
set_option maxHeartbeats 3200000 in
theorem pmay_loop (f : Bool) (ao : Option Addr) (b off cap : Nat) (L : List Opn) (w : World) (h : OArg w ao b off L) (h1 : 1 ≤ L.length) (h12 : L.length ≤ 12) :
    Calls Tryd.prog 12 #[prgV f ao L.length cap] w fun e w' => e = .returned (.bool (mayR (f, L))) ∧ Below w.heap.size w w' := by
  have hm : mayR (f, L) = L.all opMay := by
    unfold mayR
    simp only
    rw [decide_eq_true (by omega), decide_eq_true h12]
    rfl
  rw [hm]
  refine callsIn_wide.1 (?_ : CallsIn Fence.wide 20 _ _ _ _ _)
  refine callsIn_of_wp_marks Tryd.func12 rfl trivial ?_ rfl
  simp only [Tryd.ntmps12, List.size_toArray, List.length_cons, List.length_nil, Nat.reduceAdd, Nat.reduceSub, Array.replicate_succ, Array.replicate_zero, List.push_toArray, List.append_toArray, List.nil_append, List.cons_append]
  refine wpIn_wide.2 ?_
  obtain ⟨W0, hW0⟩ : ∃ W0, (w.alloc (.cells #[.bool f, .slice ao L.length cap] 24)).alloc (.cells #[.bool false] 4) = W0 := ⟨_, rfl⟩
  have hb0 : Below w.heap.size w W0 := by
    rw [← hW0]
    exact ((Below.refl _ w).alloc (Nat.le_refl _) _).alloc (by simp) _
  have hB0 : MayB w W0 0 := by
    have hz := heap_alloc_new (w.alloc (.cells #[.bool f, .slice ao L.length cap] 24)) (.cells #[.bool false] 4)
    rw [World.size_alloc, hW0] at hz
    exact ⟨hz, turned_below0 hb0, Nat.zero_le _⟩
  have HB0 := Lib.hid hB0
  have HE := Lib.hid (each_any f ao b off cap L W0 (h.below hb0) (by omega))
  have HM := Lib.hid (fun k a c W => mayop_any k a c W)
  obtain ⟨n, hn⟩ : ∃ n, L.length = n := ⟨_, rfl⟩
  have HN := Lib.hid hn
  rw [hn] at h1 h12 HE hW0 ⊢
  have g1 : ¬ (n : Int) < 1 := by omega
  have g2 : ¬ (12 : Int) < n := by omega
  clear h hm hB0 hb0 hn
  have HW0 := Lib.hid hW0
  clear hW0
  go_wp2_with fail
  rw [HW0.out]
  refine HE.out.mono ?_
  rintro e W1 ⟨B, rfl, hK, hb⟩
  obtain ⟨Yb, hY, hseq⟩ := each1_seq (n := 19) (by omega) hK (by have := HN.out; omega)
  have HB1 : Hid (MayB w W1 W1.heap.size) := Lib.hid (by
    have h := HB0.out.below hb
    exact ⟨h.res, h.t, Nat.le_refl _⟩)
  have HY := Lib.hid hY
  have HSEQ := Lib.hid hseq
  have hw1 : w.heap.size + 2 ≤ W1.heap.size := lt_of_block HB1.out.res
  have hw0 : w.heap.size + 2 ≤ W0.heap.size := lt_of_block HB0.out.res
  clear hK hb hY hseq HB0 HE
  go_wp2_with fail
  refine (wpIn_wide (n := 20)).1 ?_
  refine range_turns_boxed rfl (by omega) (gf := 43) (lb := #[.pointer (some ⟨B, 0, none⟩)]) rfl trivial (enters_of Tryd.func43 (by kernel_rfl) rfl)
    (X := []) (Y := Yb) (by simp) (fun k hk => (HY.out k hk).2) HSEQ.out (fun _ => rfl) (fun _ _ _ h _ => h) (fun _ _ _ h _ => h)
    (fun pre W => MayB w W W1.heap.size ∧ ∀ x ∈ pre, opMay x.1 = true)
    (fun c pre W => c = .ret ∧ MayB w W W1.heap.size ∧ ∃ x ∈ pre, opMay x.1 = false)
    (fun xs A B h mm => ⟨h.1.mild mm (by omega), h.2⟩) (fun c xs A B h mm => ⟨h.1, h.2.1.mild mm (by omega), h.2.2⟩) ⟨HB1.out, by simp⟩ (fun xs W h => h.1.z)
    39 (fun x => #[.int .i64 x.1.1, .int .i64 x.1.2.1, .int .i64 x.1.2.2]) ?a1 ?assign ?body ?done ?stop
  case assign =>
    intro l x Bk W K hBk hK
    gi_wp2
    exact hK
  case body =>
    rintro l pre ⟨⟨x1, x2, x3⟩, j⟩ Bk W hk hbk ⟨hI, hall⟩ hsp
    simp only at hk
    obtain ⟨k0, k1, k2⟩ := op_cells hk
    have HI := Lib.hid hI
    have HALL := Lib.hid hall
    have HCM := Lib.hid (HM.out x1 x2 x3 W)
    obtain ⟨q, hq⟩ : ∃ q, opMay (x1, x2, x3) = q := ⟨_, rfl⟩
    have HQ := Lib.hid hq
    rw [hq] at HCM
    clear hI hall hq hsp hk
    cases q with
    | true =>
      gi_wp2_with fail
      refine ⟨trivial, ?_⟩
      refine (CallsIn.inRound l (callsIn_wide.2 HCM.out)).mono ?_
      rintro e' V ⟨rfl, hb⟩
      have HB := Lib.hid hb
      clear hb
      gi_wp2
      refine ⟨keeps_below HB.out, fun j hj => HB.out.block _ ?_, HI.out.below HB.out, ?_⟩
      · have := (HY.out j hj).2
        have := HI.out.z
        omega
      · intro y hy
        rcases List.mem_append.1 hy with h | h
        · exact HALL.out y h
        · simp at h
          subst h
          exact HQ.out
    | false =>
      gi_wp2_with fail
      refine ⟨trivial, ?_⟩
      refine (CallsIn.inRound l (callsIn_wide.2 HCM.out)).mono ?_
      rintro e' V ⟨rfl, hb⟩
      have HB := Lib.hid hb
      have hV := HI.out.below hb
      have r0 := cell1 hV.res
      have f0 := not_frozen hV.res 0
      have HV := Lib.hid hV
      clear hb hV
      gi_wp2
      refine ⟨(keeps_below HB.out).trans ((KeepsOthers.setCell _ _ _).from _), fun j hj => ?_, rfl, HV.out.set, ((x1, x2, x3), j), List.mem_append_right _ (by simp), HQ.out⟩
      have h1 := HY.out j hj
      have h2 := HI.out.z
      exact (Below.heap_setCell _ _ _ _ (by show j ≠ w.heap.size + 1; omega)).trans (HB.out.block _ (by omega))
  case done =>
    rintro D xs W hD rfl ⟨hI, hall⟩ hK
    have HI := Lib.hid hI
    have HKD := Lib.hid hK
    have r0 := cell1 hI.res
    have f0 := not_frozen hI.res 0
    have hA : L.all opMay = true := by
      rw [List.all_eq_true]
      intro x hx
      obtain ⟨j, hj⟩ := zip_mem hx
      exact hall _ hj
    have HA := Lib.hid hA
    clear hI hK hA
    go_wp2
    have hf := HI.out.fin (D := D) (by omega) HKD.out true
    refine ⟨by simp, .inl ⟨_, _, rfl, run_takeDeferred hf.1, ?_⟩⟩
    exact ⟨_, bool_result rfl rfl (hf.2 _).1, by rw [HA.out], (hf.2 _).2⟩
  case stop =>
    rintro D c xs W hD hsx ⟨rfl, hI, hx⟩ hK
    have HI := Lib.hid hI
    have HKD := Lib.hid hK
    clear hI hK
    refine wpIn_ret ?_
    simp only [Exit.inBlock]
    have hA : L.all opMay = false := by
      obtain ⟨x, hx1, hx2⟩ := hx
      rw [List.all_eq_false]
      exact ⟨x.1, zip_may hsx x hx1, by simp [hx2]⟩
    have hne : D ≠ w.heap.size + 1 := by omega
    have hres : ∀ o, (W.putObj D o).heap[w.heap.size + 1]? = some (.cells #[.bool false] 4 (0, 0)) := fun o => (World.putObj_heap_other (Ne.symm hne)).trans HI.out.res
    refine ⟨by simp, .inl ⟨_, _, rfl, run_takeDeferred HKD.out, ?_⟩⟩
    exact ⟨_, bool_result rfl rfl (hres _), by rw [hA], (HI.out.t.put (by omega) _).below (by simp) (Nat.le_refl _)⟩
set_option maxRecDepth 100000 in
theorem pmay_any (f : Bool) (ao : Option Addr) (b off cap : Nat) (L : List Opn) (w : World) (h : OArg w ao b off L) :
    Calls Tryd.prog 12 #[prgV f ao L.length cap] w fun e w' => e = .returned (.bool (mayR (f, L))) ∧ Below w.heap.size w w' := by
  by_cases h1 : 1 ≤ L.length
  · by_cases h12 : L.length ≤ 12
    · exact pmay_loop f ao b off cap L w h h1 h12
    · rw [may_long (by omega)]
      obtain ⟨n, hn⟩ : ∃ n, L.length = n := ⟨_, rfl⟩
      rw [hn] at h12 h1 ⊢
      have g1 : ¬ (n : Int) < 1 := by omega
      have g2 : (12 : Int) < n := by omega
      clear h hn
      have HX := Lib.hid (may_out w f ao n cap)
      go_enter Tryd.func12, Tryd.ntmps12
      go_wp2
      refine bodyPost_ret (bool_result rfl rfl HX.out.1) rfl ?_
      exact ⟨rfl, HX.out.2⟩
  · have hq : mayR (f, L) = false := by
      unfold mayR
      simp only
      rw [decide_eq_false (by omega), Bool.false_and]
    rw [hq]
    obtain ⟨n, hn⟩ : ∃ n, L.length = n := ⟨_, rfl⟩
    rw [hn] at h1 ⊢
    have g1 : (n : Int) < 1 := by omega
    clear h hn hq
    have HX := Lib.hid (may_out w f ao n cap)
    go_enter Tryd.func12, Tryd.ntmps12
    go_wp2
    refine bodyPost_ret (bool_result rfl rfl HX.out.1) rfl ?_
    exact ⟨rfl, HX.out.2⟩
end Go.Proofs.YtmcfjlkjijaflaaDoor
