/-
  The program's mayEach and May of acts.
-/
import Derived.Test.YtmcfjlkjijaflaaDoorAcEach
import Derived.Test.YtmcfjlkjijaflaaDoorAcMayP
namespace Go.Proofs.YtmcfjlkjijaflaaDoor
open Go.RowKit Go.Maps Go.Shelf
attribute [local go_sem] Oper.semAt_some

theorem akeeps_below {n : Nat} {A B : World} (h : Below A.heap.size A B) : KeepsFrom n A B :=
  ⟨h.size, fun _ _ _ hk _ => (h.block _ (lt_of_block hk)).trans hk⟩
/-- The box of mayEach's answer, while its loop runs. -/
structure AMayB (w W : World) (N : Nat) : Prop where
  res : W.heap[w.heap.size]? = some (.cells #[.bool false] 4 (0, 0))
  t : Turned [] w W
  z : N ≤ W.heap.size
theorem AMayB.mild {w W W' : World} {N N' : Nat} (h : AMayB w W N) (m : Mild [] N' W W') (hN : w.heap.size ≤ N') : AMayB w W' N :=
  ⟨m.cells h.res (by simp), h.t.mild m hN (by simp), Nat.le_trans h.z m.size⟩
theorem AMayB.below {w W W' : World} {N : Nat} (h : AMayB w W N) (hb : Below W.heap.size W W') : AMayB w W' N :=
  ⟨(hb.block _ (lt_of_block h.res)).trans h.res, h.t.trans (turned_below0 hb) (Newer.refl _ _), Nat.le_trans h.z hb.size⟩
theorem azip_may {L : List Ac} {pre : List (Ac × Nat)} (h : pre <+: L.zipIdx) : ∀ x ∈ pre, x.1 ∈ L := by
  intro x hx
  have h2 := h.subset hx
  exact (List.mem_zipIdx' h2).2 ▸ List.getElem_mem _
theorem azip_mem {L : List Ac} {x : Ac} (h : x ∈ L) : ∃ j, (x, j) ∈ L.zipIdx := by
  obtain ⟨i, hi, rfl⟩ := List.getElem_of_mem h
  refine ⟨i, ?_⟩
  have h2 : L.zipIdx[i]'(by rw [List.length_zipIdx]; exact hi) = (L[i], i) := by
    rw [List.getElem_zipIdx]
    simp
  rw [← h2]
  exact List.getElem_mem _
/-- What the answer's box holds behind the loop's end. -/
theorem AMayB.fin {w W : World} {N D : Nat} (h : AMayB w W N) (hN : w.heap.size + 1 ≤ D) (hK : W.heap[D]? = some (.deferred (some []))) (q : Bool) :
    (W.setCell ⟨w.heap.size, 0, none⟩ (.bool q)).heap[D]? = some (.deferred (some [])) ∧
    (∀ o, ((W.setCell ⟨w.heap.size, 0, none⟩ (.bool q)).putObj D o).heap[w.heap.size]? = some (.cells #[.bool q] 4 (0, 0)) ∧
    Below w.heap.size w ((W.setCell ⟨w.heap.size, 0, none⟩ (.bool q)).putObj D o)) := by
  have hne : D ≠ w.heap.size := by omega
  refine ⟨(Below.heap_setCell _ _ _ _ hne).trans hK, fun o => ⟨?_, ?_⟩⟩
  · rw [World.putObj_heap_other (Ne.symm hne), heap_setCell_same _ _ _ _ _ _ h.res]
    rfl
  · exact ((h.t.setCell (.inr (by show w.heap.size ≤ w.heap.size; omega)) _).put (by omega) o).below (by simp) (Nat.le_refl _)
theorem AMayB.set {w W : World} {N : Nat} (h : AMayB w W N) : AMayB w (W.setCell ⟨w.heap.size, 0, none⟩ (.bool false)) N := by
  refine ⟨?_, h.t.setCell (.inr (by show w.heap.size ≤ w.heap.size; omega)) _, by simpa [World.setCell] using h.z⟩
  rw [heap_setCell_same _ _ _ _ _ _ h.res]
  rfl
set_option maxRecDepth 100000 in
set_option maxHeartbeats 3200000 in
theorem mayeach_any (ao : Option Addr) (b off cap : Nat) (L : List Ac) (w : World) (h : AArg w ao b off L) (hm : L.length ≤ 100000) :
    Calls Tryd.prog 52 #[.slice ao L.length cap] w fun e w' => e = .returned (.bool (acsMay L)) ∧ Below w.heap.size w w' := by
  unfold acsMay
  refine callsIn_wide.1 (?_ : CallsIn Fence.wide 20 _ _ _ _ _)
  refine callsIn_of_wp_marks Tryd.func52 rfl trivial ?_ rfl
  simp only [Tryd.ntmps52, List.size_toArray, List.length_cons, List.length_nil, Nat.reduceAdd, Nat.reduceSub, Array.replicate_succ, Array.replicate_zero, List.push_toArray, List.append_toArray, List.nil_append, List.cons_append]
  refine wpIn_wide.2 ?_
  obtain ⟨W0, hW0⟩ : ∃ W0, w.alloc (.cells #[.bool false] 4) = W0 := ⟨_, rfl⟩
  have hb0 : Below w.heap.size w W0 := by
    rw [← hW0]
    exact (Below.refl _ w).alloc (Nat.le_refl _) _
  have hB0 : AMayB w W0 0 := by
    have hz := heap_alloc_new w (.cells #[.bool false] 4)
    rw [hW0] at hz
    exact ⟨hz, turned_below0 hb0, Nat.zero_le _⟩
  have HB0 := Lib.hid hB0
  have HE := Lib.hid (aeach_any ao b off cap L W0 (h.below hb0) hm)
  have HM := Lib.hid (fun k a c d e W => mayact_any k a c d e W)
  obtain ⟨n, hn⟩ : ∃ n, L.length = n := ⟨_, rfl⟩
  have HN := Lib.hid hn
  rw [hn] at HE hm ⊢
  clear h hB0 hb0 hn
  have HW0 := Lib.hid hW0
  clear hW0
  go_wp2_with fail
  rw [HW0.out]
  refine HE.out.mono ?_
  rintro e W1 ⟨B, rfl, hK, hb⟩
  obtain ⟨Yb, hY, hseq⟩ := aeach1_seq (n := 19) (by omega) hK (by have := HN.out; omega)
  have HB1 : Hid (AMayB w W1 W1.heap.size) := Lib.hid (by
    have h := HB0.out.below hb
    exact ⟨h.res, h.t, Nat.le_refl _⟩)
  have HY := Lib.hid hY
  have HSEQ := Lib.hid hseq
  have hw1 : w.heap.size + 1 ≤ W1.heap.size := lt_of_block HB1.out.res
  have hw0 : w.heap.size + 1 ≤ W0.heap.size := lt_of_block HB0.out.res
  clear hK hb hY hseq HB0 HE
  go_wp2_with fail
  refine (wpIn_wide (n := 20)).1 ?_
  refine range_turns_boxed rfl (by omega) (gf := 61) (lb := #[.pointer (some ⟨B, 0, none⟩)]) rfl trivial (enters_of Tryd.func61 (by kernel_rfl) rfl)
    (X := []) (Y := Yb) (by simp) (fun k hk => (HY.out k hk).2) HSEQ.out (fun _ => rfl) (fun _ _ _ h _ => h) (fun _ _ _ h _ => h)
    (fun pre W => AMayB w W W1.heap.size ∧ ∀ x ∈ pre, acMay x.1 = true)
    (fun c pre W => c = .ret ∧ AMayB w W W1.heap.size ∧ ∃ x ∈ pre, acMay x.1 = false)
    (fun xs A B h mm => ⟨h.1.mild mm (by omega), h.2⟩) (fun c xs A B h mm => ⟨h.1, h.2.1.mild mm (by omega), h.2.2⟩) ⟨HB1.out, by simp⟩ (fun xs W h => h.1.z)
    69 (fun x => #[.int .i64 x.1.1, .int .i64 x.1.2.1, .int .i64 x.1.2.2.1, .int .i64 x.1.2.2.2.1, .int .i64 x.1.2.2.2.2]) ?a1 ?assign ?body ?done ?stop
  case assign =>
    intro l x Bk W K hBk hK
    gi_wp2
    exact hK
  case body =>
    rintro l pre ⟨⟨x1, x2, x3, x4, x5⟩, j⟩ Bk W hk hbk ⟨hI, hall⟩ hsp
    simp only at hk
    obtain ⟨k0, k1, k2, k3, k4⟩ := act_cells hk
    have HI := Lib.hid hI
    have HALL := Lib.hid hall
    have HCM := Lib.hid (HM.out x1 x2 x3 x4 x5 W)
    obtain ⟨q, hq⟩ : ∃ q, acMay (x1, x2, x3, x4, x5) = q := ⟨_, rfl⟩
    have HQ := Lib.hid hq
    rw [hq] at HCM
    clear hI hall hq hsp hk
    cases q with
    | true =>
      gi_wp2_with fail
      refine ⟨trivial, ?_⟩
      refine (CallsIn.inRound l (callsIn_wide.2 HCM.out)).mono ?_
      rintro e' V ⟨rfl, hb⟩
      have HB := Lib.hid hb
      clear hb
      gi_wp2
      refine ⟨akeeps_below HB.out, fun j hj => HB.out.block _ ?_, HI.out.below HB.out, ?_⟩
      · have := (HY.out j hj).2
        have := HI.out.z
        omega
      · intro y hy
        rcases List.mem_append.1 hy with h | h
        · exact HALL.out y h
        · simp at h
          subst h
          exact HQ.out
    | false =>
      gi_wp2_with fail
      refine ⟨trivial, ?_⟩
      refine (CallsIn.inRound l (callsIn_wide.2 HCM.out)).mono ?_
      rintro e' V ⟨rfl, hb⟩
      have HB := Lib.hid hb
      have hV := HI.out.below hb
      have r0 := cell1 hV.res
      have f0 := not_frozen hV.res 0
      have HV := Lib.hid hV
      clear hb hV
      gi_wp2
      refine ⟨(akeeps_below HB.out).trans ((KeepsOthers.setCell _ _ _).from _), fun j hj => ?_, rfl, HV.out.set, ((x1, x2, x3, x4, x5), j), List.mem_append_right _ (by simp), HQ.out⟩
      have h1 := HY.out j hj
      have h2 := HI.out.z
      exact (Below.heap_setCell _ _ _ _ (by show j ≠ w.heap.size; omega)).trans (HB.out.block _ (by omega))
  case done =>
    rintro D xs W hD rfl ⟨hI, hall⟩ hK
    have HI := Lib.hid hI
    have HKD := Lib.hid hK
    have r0 := cell1 hI.res
    have f0 := not_frozen hI.res 0
    have hA : L.all acMay = true := by
      rw [List.all_eq_true]
      intro x hx
      obtain ⟨j, hj⟩ := azip_mem hx
      exact hall _ hj
    have HA := Lib.hid hA
    clear hI hK hA
    go_wp2
    have hf := HI.out.fin (D := D) (by omega) HKD.out true
    refine ⟨by simp, .inl ⟨_, _, rfl, run_takeDeferred hf.1, ?_⟩⟩
    exact ⟨_, bool_result rfl rfl (hf.2 _).1, by rw [HA.out], (hf.2 _).2⟩
  case stop =>
    rintro D c xs W hD hsx ⟨rfl, hI, hx⟩ hK
    have HI := Lib.hid hI
    have HKD := Lib.hid hK
    clear hI hK
    refine wpIn_ret ?_
    simp only [Exit.inBlock]
    have hA : L.all acMay = false := by
      obtain ⟨x, hx1, hx2⟩ := hx
      rw [List.all_eq_false]
      exact ⟨x.1, azip_may hsx x hx1, by simp [hx2]⟩
    have hne : D ≠ w.heap.size := by omega
    have hres : ∀ o, (W.putObj D o).heap[w.heap.size]? = some (.cells #[.bool false] 4 (0, 0)) := fun o => (World.putObj_heap_other (Ne.symm hne)).trans HI.out.res
    refine ⟨by simp, .inl ⟨_, _, rfl, run_takeDeferred HKD.out, ?_⟩⟩
    exact ⟨_, bool_result rfl rfl (hres _), by rw [hA], (HI.out.t.put (by omega) _).below (by simp) (Nat.le_refl _)⟩
/-- Whether acts may be, at most so many. -/
def actsMay (L : List Ac) : Bool := decide (L.length ≤ 4000) && acsMay L
set_option maxRecDepth 100000 in
theorem amay_all (ao : Option Addr) (b off cap : Nat) (L : List Ac) (w : World) (h : AArg w ao b off L) (hm : L.length ≤ 100000) :
    Calls Tryd.prog 28 #[.slice ao L.length cap] w fun e w' => e = .returned (.bool (actsMay L)) ∧ Below w.heap.size w w' := by
  have HE := Lib.hid (mayeach_any ao b off cap L w h hm)
  unfold actsMay
  obtain ⟨q, hq⟩ : ∃ q, acsMay L = q := ⟨_, rfl⟩
  obtain ⟨n, hn⟩ : ∃ n, L.length = n := ⟨_, rfl⟩
  rw [hn, hq] at HE
  rw [hn, hq]
  clear h hm hn hq
  by_cases h4 : n ≤ 4000
  · have g1 : (n : Int) ≤ 4000 := by omega
    have g2 : decide ((n : Int) ≤ 4000) = true := by simp; omega
    rw [decide_eq_true h4, Bool.true_and]
    go_enter Tryd.func28, Tryd.ntmps28
    go_wp2_with fail
    with_reducible refine HE.out.mono ?_
    rintro e w1 ⟨rfl, hb⟩
    have HB := Lib.hid hb
    clear hb
    go_wp2
    go_ret
    exact ⟨rfl, HB.out⟩
  · have g1 : ¬ (n : Int) ≤ 4000 := by omega
    have g2 : decide ((n : Int) ≤ 4000) = false := by simp; omega
    rw [decide_eq_false h4, Bool.false_and]
    go_enter Tryd.func28, Tryd.ntmps28
    go_wp2
    go_ret
    exact ⟨rfl, Below.refl _ _⟩
end Go.Proofs.YtmcfjlkjijaflaaDoor
