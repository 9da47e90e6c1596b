/-
  The program's Longest.
-/
import Derived.Test.YtmcfjlkjijaflaaCrSecs
import Derived.Test.YtmcfjlkjijaflaaHbRange
namespace Go.Proofs.Ytmcfjlkjijaflaa
open Go.RowKit Go.Maps Go.Shelf
attribute [local go_sem] Oper.semAt_some

/-- The greatest ticks of that lock's sections so far; was there one? -/
def longSt (lock : Int) (p : Int × Bool) (s : Sec) : Int × Bool := if s.2.2.1 = lock ∧ (p.2 = false ∨ p.1 < s.2.2.2) then (s.2.2.2, true) else p
def longR (lock : Int) (l : List Sec) : Int × Bool := l.foldl (longSt lock) (0, false)
theorem long_snoc (lock : Int) (l : List Sec) (s : Sec) : longR lock (l ++ [s]) = longSt lock (longR lock l) s := by
  unfold longR
  rw [List.foldl_append]
  rfl
/-- Longest's boxes. -/
structure LgB (w W : World) (lock : Int) (N : Nat) (p : Int × Bool) : Prop where
  lb : W.heap[w.heap.size + 1]? = some (.cells #[.int .i64 lock] 3 (0, 0))
  mb : W.heap[w.heap.size + 2]? = some (.cells #[.int .i64 p.1] 3 (0, 0))
  fb : W.heap[w.heap.size + 3]? = some (.cells #[.bool p.2] 4 (0, 0))
  t : Turned [] w W
  z : N ≤ W.heap.size
section
variable {w W W' : World} {lock : Int} {p : Int × Bool} {N : Nat}
theorem LgB.mild {N' : Nat} (h : LgB w W lock N p) (mm : Mild [] N' W W') (hN : w.heap.size ≤ N') : LgB w W' lock N p :=
  ⟨mm.cells h.lb (by simp), mm.cells h.mb (by simp), mm.cells h.fb (by simp), h.t.mild mm hN (by simp), Nat.le_trans h.z mm.size⟩
theorem LgB.below (h : LgB w W lock N p) (hb : Below W.heap.size W W') : LgB w W' lock N p :=
  ⟨(hb.block _ (lt_of_block h.lb)).trans h.lb, (hb.block _ (lt_of_block h.mb)).trans h.mb, (hb.block _ (lt_of_block h.fb)).trans h.fb, h.t.trans (turned_below0 hb) (Newer.refl _ _), Nat.le_trans h.z hb.size⟩
theorem LgB.set (h : LgB w W lock N p) (m : Int) : LgB w ((W.setCell ⟨w.heap.size + 2, 0, none⟩ (.int .i64 m)).setCell ⟨w.heap.size + 3, 0, none⟩ (.bool true)) lock N (m, true) := by
  refine ⟨?_, ?_, ?_, (h.t.setCell (.inr (by show w.heap.size ≤ w.heap.size + 2; omega)) _).setCell (.inr (by show w.heap.size ≤ w.heap.size + 3; omega)) _, by simp [World.setCell]; exact h.z⟩
  · exact (Below.heap_setCell _ _ _ _ (by show w.heap.size + 1 ≠ w.heap.size + 3; omega)).trans ((Below.heap_setCell _ _ _ _ (by show w.heap.size + 1 ≠ w.heap.size + 2; omega)).trans h.lb)
  · rw [Below.heap_setCell _ _ _ _ (by show w.heap.size + 2 ≠ w.heap.size + 3; omega), heap_setCell_same _ _ _ _ _ _ h.mb]
    rfl
  · rw [heap_setCell_same _ _ _ _ _ _ ((Below.heap_setCell _ _ _ _ (by show w.heap.size + 3 ≠ w.heap.size + 2; omega)).trans h.fb)]
    rfl
theorem lgb_start (w : World) (pv : Array Value) (lock : Int) : LgB w ((((w.alloc (.cells pv 24)).alloc (.cells #[.int .i64 lock] 3)).alloc (.cells #[.int .i64 0] 3)).alloc (.cells #[.bool false] 4)) lock 0 (0, false) := by
  have b : ∀ (V : World) (o : Obj), Below V.heap.size V (V.alloc o) := fun V o => (Below.refl _ V).alloc (Nat.le_refl _) o
  refine ⟨?_, ?_, ?_, (((((Turned.refl [] w).alloc _).alloc _).alloc _).alloc _), Nat.zero_le _⟩
  · refine ((b _ _).block _ (by simp <;> omega)).trans (((b _ _).block _ (by simp)).trans ?_)
    have h := heap_alloc_new (w.alloc (.cells pv 24)) (.cells #[.int .i64 lock] 3)
    rw [World.size_alloc] at h
    exact h
  · refine ((b _ _).block _ (by simp)).trans ?_
    have h := heap_alloc_new ((w.alloc (.cells pv 24)).alloc (.cells #[.int .i64 lock] 3)) (.cells #[.int .i64 0] 3)
    simp only [World.size_alloc] at h
    exact h
  · have h := heap_alloc_new (((w.alloc (.cells pv 24)).alloc (.cells #[.int .i64 lock] 3)).alloc (.cells #[.int .i64 0] 3)) (.cells #[.bool false] 4)
    simp only [World.size_alloc] at h
    exact h
end
set_option maxRecDepth 100000 in
set_option maxHeartbeats 6400000 in
theorem plongest_any (f : Bool) (ao : Option Addr) (b off cap : Nat) (L : List Opn) (lock : Int) (w : World) (h : OArg w ao b off L) (hL : L.length ≤ 12) (ho : ∀ o ∈ L, opMay o = true) :
    Calls Try.prog 10 #[prgV f ao L.length cap, .int .i64 lock] w fun e w' => e = .returned (.int .i64 (longR lock (secsR L)).1) ∧ Below w.heap.size w w' := by
  refine callsIn_wide.1 (?_ : CallsIn Fence.wide 20 _ _ _ _ _)
  refine callsIn_of_wp_marks Try.func10 rfl trivial ?_ rfl
  simp only [Try.ntmps10, List.size_toArray, List.length_cons, List.length_nil, Nat.reduceAdd, Nat.reduceSub, Array.replicate_succ, Array.replicate_zero, List.push_toArray, List.append_toArray, List.nil_append, List.cons_append]
  refine wpIn_wide.2 ?_
  have h0 := lgb_start w (prgV f ao L.length cap).cells lock
  obtain ⟨W0, hW0⟩ : ∃ W0, (((w.alloc (.cells (prgV f ao L.length cap).cells 24)).alloc (.cells #[.int .i64 lock] 3)).alloc (.cells #[.int .i64 0] 3)).alloc (.cells #[.bool false] 4) = W0 := ⟨_, rfl⟩
  rw [hW0] at h0
  have HE := Lib.hid (sections_any f ao b off cap L W0 (h.below (h0.t.below (by simp) (Nat.le_refl _))) (by omega))
  have HO := Lib.hid ho
  have HB0 := Lib.hid h0
  obtain ⟨n, hn⟩ : ∃ n, L.length = n := ⟨_, rfl⟩
  have HN := Lib.hid hn
  obtain ⟨A, hA⟩ : ∃ A, longR lock (secsR L) = A := ⟨_, rfl⟩
  have HA := Lib.hid hA
  rw [hA]
  rw [hn] at HE hL hW0 ⊢
  have HW0 := Lib.hid hW0
  have hw0 : w.heap.size + 4 ≤ W0.heap.size := lt_of_block HB0.out.fb
  clear h ho h0 hn hA hW0
  go_wp2_with fail
  have hW0 := HW0.out
  simp only [Value.cells] at hW0
  (try rw [hW0])
  clear hW0
  with_reducible refine HE.out.mono ?_
  rintro e W1 ⟨B, rfl, hK, hb⟩
  obtain ⟨Yb, hY, hseq⟩ := secs1_seq (n := 19) (by omega) hK (by have := HN.out; omega) HO.out
  have HB1 : Hid (LgB w W1 lock W1.heap.size (0, false)) := Lib.hid (by
    have h := HB0.out.below hb
    exact ⟨h.lb, h.mb, h.fb, h.t, Nat.le_refl _⟩)
  have HY := Lib.hid hY
  have HSEQ := Lib.hid hseq
  have hw1 : w.heap.size + 4 ≤ W1.heap.size := lt_of_block HB1.out.fb
  clear hK hb hY hseq HB0 HE
  go_wp2_with fail
  refine (wpIn_wide (n := 20)).1 ?_
  refine range_turns_boxed rfl (by omega) (gf := 21) (lb := #[.pointer (some ⟨B, 0, none⟩)]) rfl trivial (enters_of Try.func21 (by kernel_rfl) rfl)
    (X := []) (Y := Yb) (by simp) (fun k hk => (HY.out k hk).2) HSEQ.out (fun _ => rfl) (fun _ _ _ h _ => h) (fun _ _ _ h _ => h)
    (fun pre W => LgB w W lock W1.heap.size (longR lock pre))
    (fun _ _ _ => False)
    (fun xs A B h mm => h.mild mm (by omega)) (fun c xs A B h mm => h) HB1.out (fun xs W h => h.z)
    44 (fun x => #[.int .i64 (x.1 : Nat), .int .i64 (x.2.1 : Nat), .int .i64 x.2.2.1, .int .i64 x.2.2.2]) ?a1 ?assign ?body ?done ?stop
  case assign =>
    intro l x Bk W K hBk hK
    gi_wp2
    exact hK
  case body =>
    rintro l pre ⟨i, j, lk, t⟩ Bk W hk hbk hI hsp
    simp only at hk
    obtain ⟨s0, s1, s2, s3, -⟩ := four_cells hk
    have b1 := cell1 hI.lb
    have b2 := cell1 hI.mb
    have b3 := cell1 hI.fb
    have f2 := not_frozen hI.mb 0
    have f3 := not_frozen hI.fb 0
    obtain ⟨⟨m, fd⟩, hp⟩ : ∃ p, longR lock pre = p := ⟨_, rfl⟩
    rw [hp] at b2 b3
    simp only at b2 b3
    have hst := long_snoc lock pre (i, j, lk, t)
    rw [hp] at hst
    have HI := Lib.hid hI
    have HS := Lib.hid hst
    have HP := Lib.hid hp
    have keepY : ∀ k ∈ Yb, (W.setCell ⟨w.heap.size + 2, 0, none⟩ (.int .i64 t)).heap[k]? = W.heap[k]? ∧ ((W.setCell ⟨w.heap.size + 2, 0, none⟩ (.int .i64 t)).setCell ⟨w.heap.size + 3, 0, none⟩ (.bool true)).heap[k]? = W.heap[k]? := by
      intro k hk
      have h1 := HY.out k hk
      have h2 : (W.setCell ⟨w.heap.size + 2, 0, none⟩ (.int .i64 t)).heap[k]? = W.heap[k]? := Below.heap_setCell _ _ _ _ (by show k ≠ w.heap.size + 2; omega)
      exact ⟨h2, (Below.heap_setCell _ _ _ _ (by show k ≠ w.heap.size + 3; omega)).trans h2⟩
    have HYY := Lib.hid keepY
    clear hI hst hp hsp hk keepY
    by_cases hl : lk = lock
    · subst hl
      cases fd with
      | false =>
        have HE : Hid (longR lk (pre ++ [(i, j, lk, t)]) = (t, true)) := Lib.hid (HS.out.trans (by unfold longSt; rw [if_pos ⟨rfl, .inl rfl⟩]))
        gi_wp2
        refine ⟨((KeepsOthers.setCell _ _ _).from _).trans ((KeepsOthers.setCell _ _ _).from _), fun k hk => (HYY.out k hk).2, ?_⟩
        show LgB w _ lk W1.heap.size (longR lk (pre ++ [(i, j, lk, t)]))
        rw [HE.out]
        exact HI.out.set t
      | true =>
        by_cases hm : m < t
        · have HE : Hid (longR lk (pre ++ [(i, j, lk, t)]) = (t, true)) := Lib.hid (HS.out.trans (by unfold longSt; rw [if_pos ⟨rfl, .inr hm⟩]))
          gi_wp2
          refine ⟨((KeepsOthers.setCell _ _ _).from _).trans ((KeepsOthers.setCell _ _ _).from _), fun k hk => (HYY.out k hk).2, ?_⟩
          show LgB w _ lk W1.heap.size (longR lk (pre ++ [(i, j, lk, t)]))
          rw [HE.out]
          exact HI.out.set t
        · have HE : Hid (longR lk (pre ++ [(i, j, lk, t)]) = longR lk pre) := Lib.hid (HS.out.trans (by
            rw [HP.out]
            unfold longSt
            rw [if_neg (by
              rintro ⟨-, h | h⟩
              · cases h
              · exact hm h)]))
          gi_wp2
          refine ⟨KeepsFrom.refl _ _, SameAt.refl _ _, ?_⟩
          show LgB w _ lk W1.heap.size (longR lk (pre ++ [(i, j, lk, t)]))
          rw [HE.out]
          exact HI.out
    · have ql : (lk == lock) = false := by simpa using hl
      have HE : Hid (longR lock (pre ++ [(i, j, lk, t)]) = longR lock pre) := Lib.hid (HS.out.trans (by
        rw [HP.out]
        unfold longSt
        rw [if_neg (by rintro ⟨h, -⟩; exact hl h)]))
      gi_wp2
      refine ⟨KeepsFrom.refl _ _, SameAt.refl _ _, ?_⟩
      show LgB w _ lock W1.heap.size (longR lock (pre ++ [(i, j, lk, t)]))
      rw [HE.out]
      exact HI.out
  case done =>
    rintro D xs W hD rfl hI hK
    rw [HA.out] at hI
    have b2 := cell1 hI.mb
    have HI := Lib.hid hI
    have HKD := Lib.hid hK
    clear hI hK
    go_wp2
    refine ⟨by simp, .inl ⟨_, _, rfl, run_takeDeferred HKD.out, ?_⟩⟩
    exact ⟨_, results_tmp rfl _ _ _, rfl, (HI.out.t.put (by omega) _).below (by simp) (Nat.le_refl _)⟩
  case stop =>
    rintro D c xs W _ _ h _
    exact h.elim
end Go.Proofs.Ytmcfjlkjijaflaa
