/-
  The program's Check.
  The first program that doesn't fit.
-/
import Derived.Test.YtmcfjlkjijaflaaGreatDoorCrOp
import Derived.Test.YtmcfjlkjijaflaaGreatDoorGAO
import Derived.Test.YtmcfjlkjijaflaaGreatDoorGAH
import Derived.Test.YtmcfjlkjijaflaaGreatDoorGAP

/- The program's Check. -/
namespace Go.Proofs.YtmcfjlkjijaflaaGreatDoor
open Go.RowKit Go.Maps Go.Shelf
attribute [local go_sem] Oper.semAt_some

theorem go_all {f : Bool} {n : Nat} {locks : List Lk} {progs : Int} : ∀ (L : List Opn) (i : Nat) (time : Bool), (∀ j (hj : j < L.length), metR f n locks progs L[j] (L.drop (j + 1)) (i + j) = 0) →
    goR f n locks progs L i time = if f = true ∧ (time || L.any timeR) = false then (0, 1) else (0, 0)
  | [], i, time, _ => by simp [goR]
  | o :: L, i, time, h => by
    have h0 := h 0 (by simp)
    simp only [List.getElem_cons_zero, Nat.add_zero, Nat.zero_add, List.drop_succ_cons, List.drop_zero] at h0
    rw [go_next h0, go_all L (i + 1) _ (fun j hj => by
      have h1 := h (j + 1) (by simp; omega)
      simp only [List.getElem_cons_succ, List.drop_succ_cons] at h1
      rw [← h1]
      congr 1
      omega)]
    have e : (time || timeR o || L.any timeR) = (time || (o :: L).any timeR) := by rw [List.any_cons, Bool.or_assoc]
    rw [e]
theorem go_first {f : Bool} {n : Nat} {locks : List Lk} {progs : Int} {m : Int} (hm : m ≠ 0) : ∀ (L : List Opn) (i : Nat) (time : Bool) (k : Nat) (hk : k < L.length), (∀ j (hj : j < L.length), j < k → metR f n locks progs L[j] (L.drop (j + 1)) (i + j) = 0) →
    metR f n locks progs L[k] (L.drop (k + 1)) (i + k) = m → goR f n locks progs L i time = (i + k, m)
  | [], i, time, k, hk, _, _ => by simp at hk
  | o :: L, i, time, 0, hk, _, h => by
    simp only [List.getElem_cons_zero, Nat.add_zero, Nat.zero_add, List.drop_succ_cons, List.drop_zero] at h
    rw [go_met h hm]
    rfl
  | o :: L, i, time, k + 1, hk, h0, h => by
    have h1 := h0 0 (by simp) (by omega)
    simp only [List.getElem_cons_zero, Nat.add_zero, Nat.zero_add, List.drop_succ_cons, List.drop_zero] at h1
    simp only [List.getElem_cons_succ, List.drop_succ_cons] at h
    rw [go_next h1, go_first hm L (i + 1) _ k (by simpa using hk) (fun j hj hjk => by
      have h2 := h0 (j + 1) (by simp; omega) (by omega)
      simp only [List.getElem_cons_succ, List.drop_succ_cons] at h2
      rw [← h2]
      congr 1
      omega) (by rw [← h]; congr 1; omega)]
    congr 1
    omega
/-- Check's boxes: of what it is given, of its answers. -/
structure CkB (w W : World) (pv lv : Value) (progs : Int) (N : Nat) (i m : Int) : Prop where
  pb : W.heap[w.heap.size]? = some (.cells pv.cells 51 (0, 0))
  lb : W.heap[w.heap.size + 1]? = some (.cells #[lv] 23 (0, 0))
  nb : W.heap[w.heap.size + 2]? = some (.cells #[.int .i64 progs] 3 (0, 0))
  r6 : W.heap[w.heap.size + 3]? = some (.cells #[.int .i64 i] 3 (0, 0))
  r7 : W.heap[w.heap.size + 4]? = some (.cells #[.int .i64 m] 29 (0, 0))
  t : Turned [] w W
  z : N ≤ W.heap.size
section
variable {w W W' : World} {pv lv : Value} {progs i m : Int} {N : Nat}
theorem CkB.mild {N' : Nat} (h : CkB w W pv lv progs N i m) (mm : Mild [] N' W W') (hN : w.heap.size ≤ N') : CkB w W' pv lv progs N i m :=
  ⟨mm.cells h.pb (by simp), mm.cells h.lb (by simp), mm.cells h.nb (by simp), mm.cells h.r6 (by simp), mm.cells h.r7 (by simp), h.t.mild mm hN (by simp), Nat.le_trans h.z mm.size⟩
theorem CkB.below (h : CkB w W pv lv progs N i m) (hb : Below W.heap.size W W') : CkB w W' pv lv progs N i m :=
  ⟨(hb.block _ (lt_of_block h.pb)).trans h.pb, (hb.block _ (lt_of_block h.lb)).trans h.lb, (hb.block _ (lt_of_block h.nb)).trans h.nb, (hb.block _ (lt_of_block h.r6)).trans h.r6, (hb.block _ (lt_of_block h.r7)).trans h.r7, h.t.trans (turned_below0 hb) (Newer.refl _ _), Nat.le_trans h.z hb.size⟩
theorem CkB.bel (h : CkB w W pv lv progs N i m) : Below w.heap.size w W := h.t.below (by simp) (Nat.le_refl _)
theorem CkB.set (h : CkB w W pv lv progs N i m) (i' m' : Int) : CkB w ((W.setCell ⟨w.heap.size + 3, 0, none⟩ (.int .i64 i')).setCell ⟨w.heap.size + 4, 0, none⟩ (.int .i64 m')) pv lv progs N i' m' := by
  have q : ∀ B, B ≠ w.heap.size + 3 → B ≠ w.heap.size + 4 → ((W.setCell ⟨w.heap.size + 3, 0, none⟩ (.int .i64 i')).setCell ⟨w.heap.size + 4, 0, none⟩ (.int .i64 m')).heap[B]? = W.heap[B]? :=
    fun B h3 h4 => (Below.heap_setCell _ _ _ _ h4).trans (Below.heap_setCell _ _ _ _ h3)
  refine ⟨(q _ (by omega) (by omega)).trans h.pb, (q _ (by omega) (by omega)).trans h.lb, (q _ (by omega) (by omega)).trans h.nb, ?_, ?_, (h.t.setCell (.inr (by show w.heap.size ≤ w.heap.size + 3; omega)) _).setCell (.inr (by show w.heap.size ≤ w.heap.size + 4; omega)) _, by simp [World.setCell]; exact h.z⟩
  · rw [Below.heap_setCell _ _ _ _ (by show w.heap.size + 3 ≠ w.heap.size + 4; omega), heap_setCell_same _ _ _ _ _ _ h.r6]
    rfl
  · rw [heap_setCell_same _ _ _ _ _ _ ((Below.heap_setCell _ _ _ _ (by show w.heap.size + 4 ≠ w.heap.size + 3; omega)).trans h.r7)]
    rfl
theorem ckb_start (w : World) (f : Bool) (ao : Option Addr) (n cap : Nat) (lv : Value) (progs : Int) :
    CkB w (((((w.alloc (.cells #[.bool f, .slice ao n cap] 51)).alloc (.cells #[lv] 23)).alloc (.cells #[.int .i64 progs] 3)).alloc (.cells #[.int .i64 0] 3)).alloc (.cells #[.int .i64 0] 29)) (prgV f ao n cap) lv progs 0 0 0 := by
  have b : ∀ (V : World) (o : Obj), Below V.heap.size V (V.alloc o) := fun V o => (Below.refl _ V).alloc (Nat.le_refl _) o
  refine ⟨?_, ?_, ?_, ?_, ?_, ((((((Turned.refl [] w).alloc _).alloc _).alloc _).alloc _).alloc _), Nat.zero_le _⟩
  · refine ((b _ _).block _ (by simp <;> omega)).trans (((b _ _).block _ (by simp <;> omega)).trans (((b _ _).block _ (by simp <;> omega)).trans (((b _ _).block _ (by simp)).trans ?_)))
    exact heap_alloc_new w _
  · refine ((b _ _).block _ (by simp <;> omega)).trans (((b _ _).block _ (by simp <;> omega)).trans (((b _ _).block _ (by simp)).trans ?_))
    have h := heap_alloc_new (w.alloc (.cells #[.bool f, .slice ao n cap] 51)) (.cells #[lv] 23)
    rw [World.size_alloc] at h
    exact h
  · refine ((b _ _).block _ (by simp <;> omega)).trans (((b _ _).block _ (by simp)).trans ?_)
    have h := heap_alloc_new ((w.alloc (.cells #[.bool f, .slice ao n cap] 51)).alloc (.cells #[lv] 23)) (.cells #[.int .i64 progs] 3)
    simp only [World.size_alloc] at h
    exact h
  · refine ((b _ _).block _ (by simp)).trans ?_
    have h := heap_alloc_new (((w.alloc (.cells #[.bool f, .slice ao n cap] 51)).alloc (.cells #[lv] 23)).alloc (.cells #[.int .i64 progs] 3)) (.cells #[.int .i64 0] 3)
    simp only [World.size_alloc] at h
    exact h
  · have h := heap_alloc_new ((((w.alloc (.cells #[.bool f, .slice ao n cap] 51)).alloc (.cells #[lv] 23)).alloc (.cells #[.int .i64 progs] 3)).alloc (.cells #[.int .i64 0] 3)) (.cells #[.int .i64 0] 29)
    simp only [World.size_alloc] at h
    exact h
theorem ck_result {fn : Func} {p q : Tmp} (hf : fn.results = #[.cell p 3, .cell q 29]) {tmps : Array Value} (hp : tmps.getD p undef = .pointer (some ⟨w.heap.size + 3, 0, none⟩)) (hq : tmps.getD q undef = .pointer (some ⟨w.heap.size + 4, 0, none⟩)) (h : CkB w W pv lv progs N i m) :
    (results fn tmps).run Tryz.prog W = .ok (.tuple #[.int .i64 i, .int .i64 m]) W := by
  have h0 := cell1 h.r6
  have h1 := cell1 h.r7
  have hp' : tmps[p]?.getD undef = .pointer (some ⟨w.heap.size + 3, 0, none⟩) := by simpa using hp
  have hq' : tmps[q]?.getD undef = .pointer (some ⟨w.heap.size + 4, 0, none⟩) := by simpa using hq
  simp [results, hf, hp', hq', loadVar, go_sem, h0, h1, asAddr, Sem.run_bind, Result.andThen]
end
theorem ck_zip {L : List Opn} {pre : List (Opn × Nat)} {x : Opn × Nat} (h : (pre ++ [x]) <+: L.zipIdx) : x.2 = pre.length ∧ ∃ hl : pre.length < L.length, L[pre.length] = x.1 := by
  obtain ⟨t, ht⟩ := h
  have h1 : L.zipIdx[pre.length]? = some x := by
    rw [← ht, List.append_assoc, List.getElem?_append_right (Nat.le_refl _)]
    simp
  rw [List.getElem?_zipIdx] at h1
  simp only [Option.map_eq_some_iff] at h1
  obtain ⟨a, ha, hx⟩ := h1
  obtain ⟨hl, hv⟩ := List.getElem?_eq_some_iff.1 ha
  subst hx
  exact ⟨by simp, hl, hv⟩
/-- The two answers' cells stored, ahead of the loop's record put back. -/
theorem CkB.fin {w W : World} {pv lv : Value} {progs i m : Int} {N D : Nat} (h : CkB w W pv lv progs N i m) (hD : w.heap.size + 5 ≤ D) (hK : W.heap[D]? = some (.deferred (some []))) (i' m' : Int) :
    ((W.setCell ⟨w.heap.size + 3, 0, none⟩ (.int .i64 i')).setCell ⟨w.heap.size + 4, 0, none⟩ (.int .i64 m')).heap[D]? = some (.deferred (some [])) ∧
    ∀ o, CkB w (((W.setCell ⟨w.heap.size + 3, 0, none⟩ (.int .i64 i')).setCell ⟨w.heap.size + 4, 0, none⟩ (.int .i64 m')).putObj D o) pv lv progs 0 i' m' := by
  have h2 := h.set i' m'
  have hh := ((Below.heap_setCell _ _ _ _ (by show D ≠ w.heap.size + 4; omega)).trans ((Below.heap_setCell _ _ _ _ (by show D ≠ w.heap.size + 3; omega)).trans hK) : ((W.setCell ⟨w.heap.size + 3, 0, none⟩ (.int .i64 i')).setCell ⟨w.heap.size + 4, 0, none⟩ (.int .i64 m')).heap[D]? = _)
  refine ⟨hh, fun o => ⟨?_, ?_, ?_, ?_, ?_, h2.t.put (by omega) o, Nat.zero_le _⟩⟩
  · exact (World.putObj_heap_other (by omega)).trans h2.pb
  · exact (World.putObj_heap_other (by omega)).trans h2.lb
  · exact (World.putObj_heap_other (by omega)).trans h2.nb
  · exact (World.putObj_heap_other (by omega)).trans h2.r6
  · exact (World.putObj_heap_other (by omega)).trans h2.r7
theorem CkB.put {w W : World} {pv lv : Value} {progs i m : Int} {N D : Nat} (h : CkB w W pv lv progs N i m) (hD : w.heap.size + 5 ≤ D) (o : Obj) : CkB w (W.putObj D o) pv lv progs 0 i m :=
  ⟨(World.putObj_heap_other (by omega)).trans h.pb, (World.putObj_heap_other (by omega)).trans h.lb, (World.putObj_heap_other (by omega)).trans h.nb, (World.putObj_heap_other (by omega)).trans h.r6, (World.putObj_heap_other (by omega)).trans h.r7, h.t.put (by omega) o, Nat.zero_le _⟩
set_option maxRecDepth 100000 in
set_option maxHeartbeats 6400000 in
theorem pcheck_not (f : Bool) (ao : Option Addr) (b off cap : Nat) (L : List Opn) (ao2 : Option Addr) (m cap2 : Nat) (progs : Int) (w : World) (h : OArg w ao b off L) (hq : mayR (f, L) = false) :
    Calls Tryz.prog 70 #[prgV f ao L.length cap, .slice ao2 m cap2, .int .i64 progs] w (CkP (0, 1) w) := by
  have h0 := ckb_start w f ao L.length cap (.slice ao2 m cap2) progs
  have hmay := pmay_any f ao b off cap L _ (h.below h0.bel)
  rw [hq] at hmay
  obtain ⟨n, hn⟩ : ∃ n, L.length = n := ⟨_, rfl⟩
  rw [hn] at hmay h0 ⊢
  have HM := Lib.hid hmay
  have H0 := Lib.hid h0
  clear h hq h0 hmay hn
  go_enter Tryz.func70, Tryz.ntmps70
  go_wp2_with fail
  with_reducible refine HM.out.mono ?_
  rintro e w1 ⟨rfl, hb⟩
  have H1 := Lib.hid (H0.out.below hb)
  have r6 := cell1 H1.out.r6
  have r7 := cell1 H1.out.r7
  have f6 := not_frozen H1.out.r6 0
  have f7 := not_frozen H1.out.r7 0
  clear hb
  go_wp2
  have hf := H1.out.set 0 1
  refine bodyPost_ret (ck_result rfl rfl rfl hf) rfl ?_
  exact ⟨rfl, hf.bel⟩
set_option maxRecDepth 100000 in
set_option maxHeartbeats 12800000 in
theorem pcheck_may (f : Bool) (ao : Option Addr) (b off cap : Nat) (L : List Opn) (ao2 : Option Addr) (b2 off2 cap2 : Nat) (locks : List Lk) (progs : Int) (w : World) (h : OArg w ao b off L) (hl : LArg w ao2 b2 off2 locks) (hm2 : locks.length ≤ 100000) (hq : mayR (f, L) = true) :
    Calls Tryz.prog 70 #[prgV f ao L.length cap, .slice ao2 locks.length cap2, .int .i64 progs] w (CkP (goR f L.length locks progs L 0 false) w) := by
  have h12 : L.length ≤ 12 ∧ ∀ o ∈ L, opMay o = true := by
    simp only [mayR, Bool.and_eq_true, decide_eq_true_eq, List.all_eq_true] at hq
    exact hq.2
  refine callsIn_wide.1 (?_ : CallsIn Fence.wide 20 _ _ _ _ _)
  refine callsIn_of_wp_marks Tryz.func70 rfl trivial ?_ rfl
  simp only [Tryz.ntmps70, List.size_toArray, List.length_cons, List.length_nil, Nat.reduceAdd, Nat.reduceSub, Array.replicate_succ, Array.replicate_zero, List.push_toArray, List.append_toArray, List.nil_append, List.cons_append]
  refine wpIn_wide.2 ?_
  have h0 := ckb_start w f ao L.length cap (.slice ao2 locks.length cap2) progs
  obtain ⟨W0, hW0⟩ : ∃ W0, ((((w.alloc (.cells #[.bool f, .slice ao L.length cap] 51)).alloc (.cells #[.slice ao2 locks.length cap2] 23)).alloc (.cells #[.int .i64 progs] 3)).alloc (.cells #[.int .i64 0] 3)).alloc (.cells #[.int .i64 0] 29) = W0 := ⟨_, rfl⟩
  rw [hW0] at h0
  have hmay := pmay_any f ao b off cap L W0 (h.below h0.bel)
  rw [hq] at hmay
  have HMAY := Lib.hid hmay
  have HE := Lib.hid (fun V (hV : Below w.heap.size w V) => each_any f ao b off cap L V (h.below hV) (by omega))
  have HR := Lib.hid (fun V (hV : Below w.heap.size w V) => containsrest_any ao b off cap L V (h.below hV) (by omega))
  have HB0 := Lib.hid h0
  obtain ⟨n, hn⟩ : ∃ n, L.length = n := ⟨_, rfl⟩
  obtain ⟨lk, hlk⟩ : ∃ lk, locks.length = lk := ⟨_, rfl⟩
  have HN := Lib.hid hn
  have HC : Hid (∀ V, Below w.heap.size w V → ∀ i (hi : i < L.length), Calls Tryz.prog 100 #[prgV f ao n cap, .int .i64 i, .slice ao2 lk cap2, .int .i64 progs] V fun e w' => e = .returned (.int .i64 (metR f n locks progs L[i] (L.drop (i + 1)) i)) ∧ Below V.heap.size V w') := Lib.hid (by
    intro V hV i hi
    have hx := checkop_any f ao b off cap L i ao2 b2 off2 cap2 locks progs V (h.below hV) (hl.below hV) hi h12.1 h12.2 hm2
    obtain ⟨o, ho⟩ : ∃ o, L[i] = o := ⟨_, rfl⟩
    rw [ho] at hx ⊢
    rw [hn, hlk] at hx
    exact hx)
  have hn12 := h12.1
  obtain ⟨A, hA⟩ : ∃ A, goR f L.length locks progs L 0 false = A := ⟨_, rfl⟩
  rw [hA]
  have HA := Lib.hid hA
  rw [hn] at hn12 HMAY HE HR HB0 hW0 HA ⊢
  rw [hlk] at HB0 hW0 ⊢
  have HW0 := Lib.hid hW0
  clear h hl hm2 hq h12 h0 hmay hn hlk hA hW0
  go_wp2_with fail
  rw [HW0.out]
  with_reducible refine HMAY.out.mono ?_
  rintro e w1 ⟨rfl, hb⟩
  have HB1 := Lib.hid (HB0.out.below hb)
  obtain ⟨c0, c1⟩ := two_cells HB1.out.pb
  clear hb HMAY
  go_wp2_with fail
  with_reducible refine (HE.out _ HB1.out.bel).mono ?_
  rintro e W1 ⟨B, rfl, hK, hb⟩
  obtain ⟨Yb, hY, hseq⟩ := each1_seq (n := 19) (by omega) hK (by have := HN.out; omega)
  have HB2 : Hid (CkB w W1 (prgV f ao n cap) (.slice ao2 lk cap2) progs W1.heap.size 0 0) := Lib.hid (by
    have h := HB1.out.below hb
    exact ⟨h.pb, h.lb, h.nb, h.r6, h.r7, h.t, Nat.le_refl _⟩)
  have HY := Lib.hid hY
  have HSEQ := Lib.hid hseq
  have hw0 : w.heap.size + 5 ≤ w1.heap.size := lt_of_block HB1.out.r7
  have hw1 : w.heap.size + 5 ≤ W1.heap.size := lt_of_block HB2.out.r7
  clear hK hb hY hseq HB0 HB1 c0 c1
  go_wp2_with fail
  refine (wpIn_wide (n := 20)).1 ?_
  refine range_turns_plain rfl (by omega) (gf := 94) (lb := #[.pointer (some ⟨B, 0, none⟩)]) rfl trivial (enters_of Tryz.func94 (by kernel_rfl) rfl)
    (X := []) (Y := Yb) (by simp) (fun k hk => (HY.out k hk).2) HSEQ.out (fun _ => rfl) (fun _ _ _ h _ => h) (fun _ _ _ h _ => h)
    (fun pre W => CkB w W (prgV f ao n cap) (.slice ao2 lk cap2) progs W1.heap.size 0 0 ∧ ∀ j (hj : j < L.length), j < pre.length → metR f n locks progs L[j] (L.drop (j + 1)) j = 0)
    (fun c pre W => c = .ret ∧ ∃ (k : Nat) (m : Int), CkB w W (prgV f ao n cap) (.slice ao2 lk cap2) progs W1.heap.size k m ∧ A = (k, m))
    (fun xs A B h mm => ⟨h.1.mild mm (by omega), h.2⟩) (fun c xs A B h mm => ⟨h.1, by obtain ⟨k, m, hk, he⟩ := h.2; exact ⟨k, m, hk.mild mm (by omega), he⟩⟩) ⟨HB2.out, fun j hj h => absurd h (Nat.not_lt_zero _)⟩
    ?a1 ?assign ?body ?done ?stop
  case assign =>
    intro l x W K hK
    gi_wp2
    exact hK
  case body =>
    rintro l pre ⟨⟨x1, x2, x3⟩, j⟩ W ⟨hI, hall⟩ hsp
    obtain ⟨hj, hlt, hx⟩ := ck_zip hsp
    simp only at hj hx
    subst hj
    have hck := HC.out W hI.bel pre.length hlt
    obtain ⟨k, hk⟩ : ∃ k, pre.length = k := ⟨_, rfl⟩
    simp only [hk] at hck hall hlt ⊢
    have hm0 := HA.out
    obtain ⟨m, hm⟩ : ∃ m, metR f n locks progs L[k] (L.drop (k + 1)) k = m := ⟨_, rfl⟩
    rw [hm] at hck
    obtain ⟨a0, a1⟩ := two_cells hI.pb
    have a2 := cell1 hI.lb
    have a3 := cell1 hI.nb
    have HI := Lib.hid hI
    have HALL := Lib.hid hall
    have HM := Lib.hid hm
    have HK := Lib.hid hk
    have HCK := Lib.hid hck
    have HLT := Lib.hid hlt
    clear hI hall hsp hk hx hm0 hck
    clear hm
    by_cases hz : m = 0
    · subst hz
      gi_wp2_with fail
      refine ⟨trivial, ?_⟩
      refine (CallsIn.inRound l (callsIn_wide.2 HCK.out)).mono ?_
      rintro e' V ⟨rfl, hb⟩
      have HB := Lib.hid hb
      clear hb
      gi_wp2
      refine ⟨keeps_below HB.out, fun j hj => HB.out.block _ ?_, HI.out.below HB.out, ?_⟩
      · have := (HY.out j hj).2
        have := HI.out.z
        omega
      · intro j hj hjk
        rw [List.length_append, HK.out] at hjk
        simp only [List.length_cons, List.length_nil] at hjk
        rcases Nat.lt_or_ge j k with h | h
        · exact HALL.out j hj h
        · obtain rfl : j = k := by omega
          exact HM.out
    · have hz2 : (m == 0) = false := by simpa using hz
      have hz3 : (m != 0) = true := by simpa using hz
      gi_wp2_with fail
      refine ⟨trivial, ?_⟩
      refine (CallsIn.inRound l (callsIn_wide.2 HCK.out)).mono ?_
      rintro e' V ⟨rfl, hb⟩
      have HB := Lib.hid hb
      have hV := HI.out.below hb
      have r6 := cell1 hV.r6
      have r7 := cell1 hV.r7
      have f6 := not_frozen hV.r6 0
      have f7 := not_frozen hV.r7 0
      have HV := Lib.hid hV
      clear hb hV
      gi_wp2
      refine ⟨((keeps_below HB.out).trans ((KeepsOthers.setCell _ _ _).from _)).trans ((KeepsOthers.setCell _ _ _).from _), fun j hj => ?_, rfl, k, m, HV.out.set k m, ?_⟩
      · have h1 := HY.out j hj
        have h2 := HI.out.z
        exact (Below.heap_setCell _ _ _ _ (by show j ≠ w.heap.size + 4; omega)).trans ((Below.heap_setCell _ _ _ _ (by show j ≠ w.heap.size + 3; omega)).trans (HB.out.block _ (by omega)))
      · have h1 := go_first hz L 0 false k HLT.out (fun j hj hjk => by rw [Nat.zero_add]; exact HALL.out j hj hjk) (by rw [Nat.zero_add]; exact HM.out)
        rw [Nat.zero_add] at h1
        exact HA.out.symm.trans h1
  case done =>
    rintro D xs W hD rfl ⟨hI, hall⟩ hK
    have hg := go_all (f := f) (n := n) (locks := locks) (progs := progs) L 0 false (fun j hj => by
      rw [Nat.zero_add]
      exact hall j hj (by rw [List.length_zipIdx]; exact hj))
    have hA := HA.out
    rw [hg] at hA
    obtain ⟨q, hq⟩ : ∃ q, L.any timeR = q := ⟨_, rfl⟩
    rw [hq, Bool.false_or] at hA
    have HAA := Lib.hid hA
    have HQ := Lib.hid hq
    obtain ⟨a0, a1⟩ := two_cells hI.pb
    have r6 := cell1 hI.r6
    have r7 := cell1 hI.r7
    have f6 := not_frozen hI.r6 0
    have f7 := not_frozen hI.r7 0
    have HI := Lib.hid hI
    have HKD := Lib.hid hK
    have HRR := HR.out W hI.bel
    rw [hq] at HRR
    have HRQ := Lib.hid HRR
    clear hI hall hK hg hA hq HRR
    cases f with
    | false =>
      go_wp2
      have hf := HI.out.fin (D := D) (by omega) HKD.out 0 0
      refine ⟨by simp, .inl ⟨_, _, rfl, run_takeDeferred hf.1, ?_⟩⟩
      exact ⟨_, ck_result rfl rfl rfl (hf.2 _), by rw [← HAA.out]; rfl, (hf.2 _).bel⟩
    | true =>
      cases q with
      | true =>
        go_wp2_with fail
        with_reducible refine HRQ.out.mono ?_
        rintro e V ⟨rfl, hb⟩
        have hV := HI.out.below hb
        have HVD := Lib.hid ((hb.block _ (lt_of_block HKD.out)).trans HKD.out)
        clear r6 r7 f6 f7
        have r6 := cell1 hV.r6
        have r7 := cell1 hV.r7
        have f6 := not_frozen hV.r6 0
        have f7 := not_frozen hV.r7 0
        have HV := Lib.hid hV
        clear hb hV
        go_wp2
        have hf := HV.out.fin (D := D) (by omega) HVD.out 0 0
        refine ⟨by simp, .inl ⟨_, _, rfl, run_takeDeferred hf.1, ?_⟩⟩
        exact ⟨_, ck_result rfl rfl rfl (hf.2 _), by rw [← HAA.out]; rfl, (hf.2 _).bel⟩
      | false =>
        go_wp2_with fail
        with_reducible refine HRQ.out.mono ?_
        rintro e V ⟨rfl, hb⟩
        have hV := HI.out.below hb
        have HVD := Lib.hid ((hb.block _ (lt_of_block HKD.out)).trans HKD.out)
        clear r6 r7 f6 f7
        have r6 := cell1 hV.r6
        have r7 := cell1 hV.r7
        have f6 := not_frozen hV.r6 0
        have f7 := not_frozen hV.r7 0
        have HV := Lib.hid hV
        clear hb hV
        go_wp2
        have hf := HV.out.fin (D := D) (by omega) HVD.out 0 1
        refine ⟨by simp, .inl ⟨_, _, rfl, run_takeDeferred hf.1, ?_⟩⟩
        exact ⟨_, ck_result rfl rfl rfl (hf.2 _), by rw [← HAA.out]; rfl, (hf.2 _).bel⟩
  case stop =>
    rintro D c xs W hD hsx ⟨rfl, k, m, hI, hAk⟩ hK
    have HI := Lib.hid hI
    have HKD := Lib.hid hK
    have HAA := Lib.hid hAk
    clear hI hK hAk
    refine wpIn_ret ?_
    simp only [Exit.inBlock]
    refine ⟨by simp, .inl ⟨_, _, rfl, run_takeDeferred HKD.out, ?_⟩⟩
    exact ⟨_, ck_result rfl rfl rfl (HI.out.put (by omega) _), by rw [HAA.out], (HI.out.put (by omega) _).bel⟩
/-- Check of any program. -/
theorem pcheck_any (f : Bool) (ao : Option Addr) (b off cap : Nat) (L : List Opn) (ao2 : Option Addr) (b2 off2 cap2 : Nat) (locks : List Lk) (progs : Int) (w : World) (h : OArg w ao b off L) (hl : LArg w ao2 b2 off2 locks) (hm2 : locks.length ≤ 100000) :
    Calls Tryz.prog 70 #[prgV f ao L.length cap, .slice ao2 locks.length cap2, .int .i64 progs] w (CkP (checkR (f, L) locks progs) w) := by
  unfold checkR
  cases hq : mayR (f, L) with
  | true => exact pcheck_may f ao b off cap L ao2 b2 off2 cap2 locks progs w h hl hm2 hq
  | false => exact pcheck_not f ao b off cap L ao2 locks.length cap2 progs w h hq
end Go.Proofs.YtmcfjlkjijaflaaGreatDoor

/- The first program that doesn't fit. -/
namespace Go.Proofs.YtmcfjlkjijaflaaGreatDoor
open Go.RowKit

def misS (locks : List Lk) (n : Int) : List Prg → Nat → Nat × Int
  | [], _ => (0, 0)
  | p :: ps, i => if (checkR p locks n).2 = 0 then misS locks n ps (i + 1) else (i, (checkR p locks n).2)
theorem mis_all (locks : List Lk) (n : Int) : ∀ (ps : List Prg) (i : Nat), ((misS locks n ps i).2 = 0 ↔ ps.all (fitS locks n) = true)
  | [], i => by simp [misS]
  | p :: ps, i => by
    unfold misS
    rw [List.all_cons]
    by_cases h : (checkR p locks n).2 = 0
    · rw [if_pos h, mis_all locks n ps (i + 1)]
      unfold fitS
      rw [decide_eq_true h, Bool.true_and]
    · rw [if_neg h]
      unfold fitS
      rw [decide_eq_false h, Bool.false_and]
      simp only [Bool.false_eq_true, iff_false]
      exact h
theorem mis_unfit (locks : List Lk) (n : Int) : ∀ (ps : List (Prg × Nat)) (i : Nat), match unfitS locks n ps with
    | none => misS locks n (ps.map (·.1)) i = (0, 0)
    | some e => ∃ (j : Nat) (hj : j < ps.length), misS locks n (ps.map (·.1)) i = (i + j, e.2) ∧ e.1 = ps[j].2 ∧ e.2 ≠ 0
  | [], i => rfl
  | x :: ps, i => by
    unfold unfitS misS
    simp only [List.map_cons]
    by_cases h : (checkR x.1 locks n).2 = 0
    · rw [if_pos h, if_pos h]
      have ih := mis_unfit locks n ps (i + 1)
      split
      · next h1 =>
        rw [h1] at ih
        exact ih
      · next e h1 =>
        rw [h1] at ih
        obtain ⟨j, hj, a, b, c⟩ := ih
        exact ⟨j + 1, by simp; omega, by rw [a]; congr 1; omega, by simpa using b, c⟩
    · rw [if_neg h, if_neg h]
      exact ⟨0, by simp, rfl, rfl, h⟩
set_option maxRecDepth 100000 in
set_option maxHeartbeats 3200000 in
theorem misfit_any (s : Stp) (ag : Option Addr) (bg og cg : Nat) (al : Option Addr) (bl ol cl : Nat) (ap : Option Addr) (bp op cp : Nat) (w : World) (h : SArg w s ag bg og al bl ol ap bp op) (z2 : s.2.2.2.1.length ≤ 100000) (z3 : s.2.2.2.2.length ≤ 100000) :
    Calls Tryz.prog 29 #[.agg (stC s.1 s.2.1 ag s.2.2.1.length cg al s.2.2.2.1.length cl ap s.2.2.2.2.length cp)] w fun e w' => e = .returned (.tuple #[.int .i64 ((misS s.2.2.2.1 s.2.2.2.2.length s.2.2.2.2 0).1 : Nat), .int .i64 (misS s.2.2.2.1 s.2.2.2.2.length s.2.2.2.2 0).2]) ∧ Below w.heap.size w w' := by
  obtain ⟨c, g, gs, ls, ps⟩ := s
  obtain ⟨h1, h2, h3⟩ := h
  simp only at h1 h2 h3 z2 z3 ⊢
  have HGA := Lib.hid h3
  have HCK := Lib.hid (fun (V : World) (hV : Below w.heap.size w V) (p : Prg) (ai : Option Addr) (bi oi ci : Nat) (ho : OArg V ai bi oi p.2) => pcheck_any p.1 ai bi oi ci p.2 al bl ol cl ls ps.length V ho (h2.below hV) z2)
  obtain ⟨G, hG⟩ : ∃ G, misS ls ps.length ps 0 = G := ⟨_, rfl⟩
  have HG0 := Lib.hid hG
  rw [hG]
  obtain ⟨n, hn⟩ : ∃ n, ps.length = n := ⟨_, rfl⟩
  obtain ⟨nl, hnl⟩ : ∃ n, ls.length = n := ⟨_, rfl⟩
  obtain ⟨ng, hng⟩ : ∃ n, gs.length = n := ⟨_, rfl⟩
  have HN := Lib.hid hn
  rw [hn, hnl] at HCK
  rw [hn] at HG0 z3
  rw [hn, hnl, hng]
  have HB0 := Lib.hid ((Below.refl w.heap.size w).alloc (Nat.le_refl _) (.cells (stC c g ag ng cg al nl cl ap n cp) 26))
  have HX0 := Lib.hid (heap_alloc_new w (.cells (stC c g ag ng cg al nl cl ap n cp) 26))
  clear h1 h2 h3 z2 hG hn hnl hng
  go_enter Tryz.func29, Tryz.ntmps29
  go_wp2_with fail
  go_loopw [11] (fun i' wr => ∃ i : Nat, i' = .int .i64 i ∧ i ≤ n ∧ Hid (Below w.heap.size w wr) ∧ Hid (wr.heap[w.heap.size]? = some (.cells (stC c g ag ng cg al nl cl ap n cp) 26 (0, 0))) ∧ Hid (misS ls n (ps.drop i) i = G)) (fun i' _ => n - (intOf i').toNat)
  case atStart => exact ⟨0, rfl, Nat.zero_le _, HB0, HX0, HG0⟩
  case round =>
    obtain ⟨i, rfl, hi, HB, HX, HG⟩ := hrel
    obtain ⟨x0, x1, x2, x3, x4⟩ := st_cells HX.out
    have hxl := lt_of_block HX.out
    by_cases hlt : i < n
    · have hiL : i < ps.length := by rw [HN.out]; exact hlt
      have hA := HGA.out.below HB.out
      obtain ⟨rfl, hbl⟩ := hA.at_ (by omega)
      obtain ⟨ai, bi, oi, ci, y0, y1, hoa⟩ := hA.cells i hiL
      obtain ⟨⟨f, ops⟩, hp⟩ : ∃ p, ps[i] = p := ⟨_, rfl⟩
      have hg := HG.out
      rw [List.drop_eq_getElem_cons hiL, hp] at hg
      unfold misS at hg
      rw [hp] at y0 y1 hoa
      simp only at y0 y1 hoa
      have i0 : (0 : Int) ≤ i := by omega
      have i1 : (i : Int) < n := by omega
      have i2 : IntKind.i64.wrap ((i : Int) + 1) = (i : Int) + 1 := by rw [IntKind.wrap_i64]; omega
      have hba : Below w.heap.size w (wr.alloc (.cells #[.bool f, .slice ai ops.length ci] 51)) := HB.out.alloc HB.out.size _
      have HCC := Lib.hid (HCK.out _ hba (f, ops) ai bi oi ci (hoa.below ((Below.refl _ wr).alloc (Nat.le_refl _) _)))
      have HXA := Lib.hid ((Below.heap_alloc wr (.cells #[.bool f, .slice ai ops.length ci] 51) _ hxl).trans HX.out)
      have HBA := Lib.hid hba
      obtain ⟨⟨ci1, ce⟩, hck⟩ : ∃ r, checkR (f, ops) ls n = r := ⟨_, rfl⟩
      rw [hck] at HCC hg
      simp only at hg HCC
      obtain ⟨m, hm⟩ : ∃ m, ops.length = m := ⟨_, rfl⟩
      rw [hm] at HCC HXA HBA y1
      clear hA hoa hba hm hck hp
      by_cases hce : ce = 0
      · rw [if_pos hce] at hg
        have HG2 := Lib.hid hg
        subst hce
        clear hg
        go_wp2_with fail
        refine HCC.out.mono ?_
        rintro r w1 ⟨rfl, hb⟩
        have HB1 := Lib.hid (HBA.out.trans (hb.mono HBA.out.size))
        have HX1 := Lib.hid ((hb.block _ (lt_of_block HXA.out)).trans HXA.out)
        clear hb x0 x1 x2 x3 x4 y0 y1
        go_wp2
        go_roundw
        case rel => exact ⟨i + 1, by go_num, by omega, HB1, HX1, HG2⟩
        case measure => simp [intOf]; omega
      · rw [if_neg hce] at hg
        have HG2 := Lib.hid hg
        have hce1 : (ce != 0) = true := by simpa using hce
        clear hg hce
        go_wp2_with fail
        refine HCC.out.mono ?_
        rintro r w1 ⟨rfl, hb⟩
        have HB1 := Lib.hid (HBA.out.trans (hb.mono HBA.out.size))
        clear hb x0 x1 x2 x3 x4 y0 y1
        go_wp2
        go_ret2
        exact ⟨by rw [← HG2.out] <;> rfl, HB1.out⟩
    · have hg := HG.out
      rw [List.drop_of_length_le (by rw [HN.out]; omega)] at hg
      have HG2 := Lib.hid hg
      clear hg x0 x1 x2 x3 x4
      go_wp2
      go_ret2
      exact ⟨by rw [← HG2.out]; rfl, HB.out⟩
end Go.Proofs.YtmcfjlkjijaflaaGreatDoor
