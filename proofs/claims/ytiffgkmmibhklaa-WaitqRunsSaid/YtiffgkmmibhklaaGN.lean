/-
  The program's waiters as they are told: Len, Count, Who, Cancel.
  The program's waiters: what is due turned; Cancel, Wake.
  The program's Wake.
  The program's Requeue.
-/
import Derived.Test.YtiffgkmmibhklaaGM
import Derived.Deep.LoopGhost
import Derived.Deep.RegionHeld3

/- The program's waiters as they are told: Len, Count, Who, Cancel. -/
namespace Go.Proofs.Ytiffgkmmibhklaa
open Go.RowKit Go.Maps

/-- What is due. -/
def dueOf (L : List Wt) : List (Hm Unit) := (L.filter fun x => !decide (x.2.2 = 0)).map fun x => (x.2.2, x.1, ())
/-- **THE PROGRAM'S TABLE**: room m in all, e for a key; who waits, in the order of each key. -/
def WlAt (w : World) (b : Nat) (X : List Nat) (m e : Int) (c : Nat) (L : List Wt) : Prop :=
  ∃ nB g0 cap gm hb Xh D, WlM w b X m e nB c L D g0 cap gm hb Xh ∧ D.Perm (dueOf L) ∧ (L.length : Int) ≤ m

theorem dueOf_append (A B : List Wt) : dueOf (A ++ B) = dueOf A ++ dueOf B := by simp [dueOf]
theorem dueOf_len (L : List Wt) : (dueOf L).length ≤ L.length := by
  unfold dueOf
  rw [List.length_map]
  exact List.length_filter_le _ _
theorem dueOf_mem {L : List Wt} {y : Hm Unit} : y ∈ dueOf L ↔ ∃ x ∈ L, x.2.2 ≠ 0 ∧ y = (x.2.2, x.1, ()) := by
  unfold dueOf
  constructor
  · intro h
    obtain ⟨x, hx, rfl⟩ := List.mem_map.1 h
    obtain ⟨h1, h2⟩ := List.mem_filter.1 hx
    exact ⟨x, h1, by simpa using h2, rfl⟩
  · rintro ⟨x, h1, h2, rfl⟩
    exact List.mem_map.2 ⟨x, List.mem_filter.2 ⟨h1, by simpa using h2⟩, rfl⟩
/-- One less. -/
theorem dueOf_erase {L : List Wt} {j : Nat} (hj : j < L.length) : (dueOf L).Perm (dueOf [L[j]] ++ dueOf (L.eraseIdx j)) := by
  have h1 : L.Perm ([L[j]] ++ L.eraseIdx j) := by
    have e : L = L.take j ++ (L[j] :: L.drop (j + 1)) := by rw [← List.drop_eq_getElem_cons hj, List.take_append_drop]
    have : (L.take j ++ (L[j] :: L.drop (j + 1))).Perm (L[j] :: (L.take j ++ L.drop (j + 1))) := List.perm_middle
    rw [← e, take_drop_erase] at this
    exact this
  rw [← dueOf_append]
  exact (h1.filter _).map _

section
variable {w w' : World} {b : Nat} {X Y : List Nat} {m e : Int} {nB c : Nat} {R : Nat → List Ln} {f : Int → Option (Nat × Int)} {s g0 cap gm hb : Nat} {Xh : List Nat} {D : List (Hm Unit)} {L : List Wt}
theorem wlLenM (h : WlM w b X m e nB c L D g0 cap gm hb Xh) : Calls Try.prog 23 #[.pointer (some ⟨b, 0, none⟩)] w fun r w' => r = .returned (.int .i64 (L.length : Nat)) ∧ w = w' := by
  obtain ⟨R, f, ⟨sv, DD, col, h1, _⟩, _⟩ := h
  exact wlLen h1

set_option maxHeartbeats 800000 in
theorem wlCountM (h : WlM w b X m e nB c L D g0 cap gm hb Xh) (a : Int) :
    Calls Try.prog 24 #[.pointer (some ⟨b, 0, none⟩), .int .i64 a] w fun r w' => r = .returned (.int .i64 (cntK L a : Nat)) ∧ Turned [] w w' := by
  obtain ⟨R, f, hQ, hI, hF, hB, he⟩ := h
  have hi := bI_lt hI.n1.1 a
  have hva := hI.vals a
  have hs := wlQueueQ hQ hI hF a
  rw [← forK_len]
  cases hl : lineOf (R (bI nB a)) a with
  | none =>
    rw [hl] at hva hs
    rw [← hva, show (valsL none).length = 0 from rfl]
    have HS := Lib.hid hs
    clear hQ hI hF hB he hva hs hl hi
    go_enter Try.func24, Try.ntmps24
    go_wp2_with fail
    with_reducible refine HS.out.mono ?_
    rintro r w1 ⟨rfl, t1⟩
    have HT := Lib.hid t1
    clear t1
    go_wp2_with fail
    refine (Wq.fqlen_nil _).mono ?_
    rintro r w2 ⟨rfl, rfl⟩
    go_wp2
    go_ret
    exact ⟨rfl, HT.out⟩
  | some x =>
    rw [hl] at hva hs
    obtain ⟨hx, _⟩ := line_some hl
    have hlen : (forK L a).length = x.P.length := by rw [← hva]; simp [valsL]
    rw [hlen]
    have HS := Lib.hid hs
    have HL := Lib.hid (fun (w2 : World) (t2 : Turned [] w w2) => Wq.fqlen_yes ((hQ.keep0 t2).que hi hx))
    obtain ⟨q, hq⟩ : ∃ q, x.qb = q := ⟨_, rfl⟩
    obtain ⟨k, hk⟩ : ∃ k, x.P.length = k := ⟨_, rfl⟩
    rw [hk] at HL ⊢
    rw [show quePtr (some x) = .pointer (some ⟨q, 0, none⟩) from by rw [← hq]; rfl] at HS
    rw [hq] at HL
    clear hQ hI hF hB he hva hs hl hi hx hlen hq hk
    go_enter Try.func24, Try.ntmps24
    go_wp2_with fail
    with_reducible refine HS.out.mono ?_
    rintro r w1 ⟨rfl, t1⟩
    have HT := Lib.hid t1
    clear t1
    go_wp2_with fail
    with_reducible refine (HL.out _ HT.out).mono ?_
    rintro r w2 ⟨rfl, n, rfl⟩
    go_wp2
    go_ret
    exact ⟨rfl, HT.out.drewN n⟩

set_option maxRecDepth 100000 in
set_option maxHeartbeats 800000 in
theorem wlWho_some (h : WlM w b X m e nB c L D g0 cap gm hb Xh) {j : Nat} (hj : j < L.length) :
    Calls Try.prog 19 #[.pointer (some ⟨b, 0, none⟩), .int .i64 L[j].1] w fun r w' => r = .returned (.tuple #[aggW L[j], .bool true]) ∧ Turned [] w w' := by
  obtain ⟨R, f, hQ, hI, hF, hB, he⟩ := h
  obtain ⟨v, hv⟩ : ∃ v, L[j] = v := ⟨_, rfl⟩
  have hvL : v ∈ L := by rw [← hv]; exact List.getElem_mem hj
  have hwf : (litN v.1).wf = true := WalkArith.wf_i64 (hI.wf v hvL).1
  obtain ⟨⟨q, t⟩, hf⟩ : ∃ st, f v.1 = some st := by
    cases hf : f v.1 with
    | none => exact absurd rfl (hI.free _ hf v hvL)
    | some st => exact ⟨st, rfl⟩
  obtain ⟨i, hi, x, hx, hqx, A, p, B, hP, hpt, hpa, hpL, _⟩ := hI.of_seat hf
  have hpv : p.2.2 = v := uniq hI.one hpL hvL hpa
  obtain ⟨W, hW⟩ : ∃ W, w.alloc (wtC (0, 0, 0)) = W := ⟨_, rfl⟩
  have T0 : Turned [] w W := hW ▸ (Turned.refl [] w).alloc _
  have K0 : W.heap[w.heap.size]? = some (wtC (0, 0, 0)) := by rw [← hW]; exact heap_alloc_new w _
  have hlt : w.heap.size < W.heap.size := lt_of_block K0
  have HS := Lib.hid (wlSeatQ (hQ.keep0 T0) hwf hf)
  have HO := Lib.hid (fun (w2 : World) (t2 : Turned [] w w2) => Wq.fqget_yes (by have := (hQ.keep0 t2).que hi hx; rw [hP] at this; exact this) t hpt.symm)
  rw [hqx, hpv] at HO
  have HT0 := Lib.hid T0
  have HK0 := Lib.hid K0
  rw [hv]
  clear hQ hI hF hB he hv hvL hf hi hx hqx hP hpt hpa hpL hpv T0 K0
  obtain ⟨v1, v2, v3⟩ := v
  simp only at HS hwf ⊢
  go_enter Try.func19, Try.ntmps19
  go_wp2_with fail
  (try rw [hW])
  clear hW
  with_reducible refine HS.out.mono ?_
  rintro r w1 ⟨rfl, t1⟩
  obtain ⟨w2, hw2⟩ : ∃ w2, w1.alloc (.cells #[.pointer (some ⟨q, 0, none⟩), .int .i64 t] tSt) = w2 := ⟨_, rfl⟩
  have t2 : Turned [] w1 w2 := hw2 ▸ (Turned.refl [] w1).alloc _
  have k2 : w2.heap[w1.heap.size]? = some (.cells #[.pointer (some ⟨q, 0, none⟩), .int .i64 t] tSt (0, 0)) := hw2 ▸ heap_alloc_new w1 _
  have HR := Lib.hid (HO.out w2 ((HT0.out.j t1).j t2))
  have HT2 := Lib.hid ((HT0.out.j t1).j t2)
  have K2 := Lib.hid ((t1.j t2).same HK0.out (by simp))
  obtain ⟨d0, d1, _⟩ := two_cells k2
  clear t1 t2 k2 HO
  go_wp2_with fail
  (try rw [hw2])
  clear hw2
  with_reducible refine HR.out.mono ?_
  rintro r w3 ⟨rfl, t3⟩
  have k3 := t3.same K2.out (by simp)
  have MM := Lib.hid k3
  have HT3 := Lib.hid (HT2.out.j t3)
  obtain ⟨r0, r1, r2, rf⟩ := cells3a k3
  have rf0 := rf 0
  have rf1 := rf 1
  have rf2 := rf 2
  clear t3 k3 rf
  go_wp2_with fail
  (try simp only [Exit.inBlock, Exit.then])
  refine bodyPost_ret (wt_result rfl rfl rfl (wt_stored MM.out)) rfl ?_
  exact ⟨rfl, HT3.out.set3w (.inr (Nat.le_refl _)) _ _ _⟩

set_option maxRecDepth 100000 in
set_option maxHeartbeats 800000 in
theorem wlWho_none (h : WlM w b X m e nB c L D g0 cap gm hb Xh) (a : Int) (ha : isI a) (hn : ∀ y ∈ L, y.1 ≠ a) :
    Calls Try.prog 19 #[.pointer (some ⟨b, 0, none⟩), .int .i64 a] w fun r w' => r = .returned (.tuple #[aggW (0, 0, 0), .bool false]) ∧ Turned [] w w' := by
  obtain ⟨R, f, hQ, hI, hF, hB, he⟩ := h
  have hwf : (litN a).wf = true := WalkArith.wf_i64 ha
  have hf := seat_free hI hn
  obtain ⟨W, hW⟩ : ∃ W, w.alloc (wtC (0, 0, 0)) = W := ⟨_, rfl⟩
  have T0 : Turned [] w W := hW ▸ (Turned.refl [] w).alloc _
  have K0 : W.heap[w.heap.size]? = some (wtC (0, 0, 0)) := by rw [← hW]; exact heap_alloc_new w _
  have hlt : w.heap.size < W.heap.size := lt_of_block K0
  have HS := Lib.hid (wlSeatQ0 (hQ.keep0 T0) hwf hf)
  have HT0 := Lib.hid T0
  have HK0 := Lib.hid K0
  clear hQ hI hF hB he hf T0 K0 hn
  go_enter Try.func19, Try.ntmps19
  go_wp2_with fail
  (try rw [hW])
  clear hW
  with_reducible refine HS.out.mono ?_
  rintro r w1 ⟨rfl, t1⟩
  obtain ⟨w2, hw2⟩ : ∃ w2, w1.alloc (.cells #[.pointer none, .int .i64 0] tSt) = w2 := ⟨_, rfl⟩
  have t2 : Turned [] w1 w2 := hw2 ▸ (Turned.refl [] w1).alloc _
  have k2 : w2.heap[w1.heap.size]? = some (.cells #[.pointer none, .int .i64 0] tSt (0, 0)) := hw2 ▸ heap_alloc_new w1 _
  have HR := Lib.hid (Wq.fqget_nil 0 w2)
  have HT2 := Lib.hid ((HT0.out.j t1).j t2)
  have K2 := Lib.hid ((t1.j t2).same HK0.out (by simp))
  obtain ⟨d0, d1, _⟩ := two_cells k2
  have HW2 := Lib.hid hw2
  clear t1 t2 k2 hw2
  go_wp2_with fail
  (try rw [HW2.out])
  with_reducible refine HR.out.mono ?_
  rintro r w3 ⟨rfl, t3⟩
  have k3 := t3.same K2.out (by simp)
  have MM := Lib.hid k3
  have HT3 := Lib.hid (HT2.out.j t3)
  obtain ⟨r0, r1, r2, rf⟩ := cells3a k3
  have rf0 := rf 0
  have rf1 := rf 1
  have rf2 := rf 2
  clear t3 k3 rf
  go_wp2_with fail
  (try simp only [Exit.inBlock, Exit.then])
  refine bodyPost_ret (wt_result rfl rfl rfl (wt_stored MM.out)) rfl ?_
  exact ⟨rfl, HT3.out.set3w (.inr (Nat.le_refl _)) _ _ _⟩
end
end Go.Proofs.Ytiffgkmmibhklaa

/- The program's waiters: what is due turned; Cancel, Wake. -/
namespace Go.Proofs.Ytiffgkmmibhklaa
open Go.RowKit Go.Maps

section
variable {w w' : World} {b : Nat} {X Y : List Nat} {m e : Int} {nB c : Nat} {R : Nat → List Ln} {f : Int → Option (Nat × Int)} {s g0 cap gm hb : Nat} {Xh : List Nat} {D : List (Hm Unit)} {L : List Wt}
/-- One who waits no more isn't due either. -/
theorem wlDrop (hone : L.Pairwise fun x y => x.1 ≠ y.1) {j : Nat} (hj : j < L.length) (hwf : wfW L[j]) (h : WlM w b X m e nB c (L.eraseIdx j) D g0 cap gm hb Xh) (hD : D.Perm (dueOf L)) :
    Calls Try.prog 31 #[.pointer (some ⟨hb, 0, none⟩), .int .i64 L[j].1] w fun r w' => ∃ v X' Xh' D', r = .returned v ∧
      WlM w' b X' m e nB c (L.eraseIdx j) D' g0 cap gm hb Xh' ∧ D'.Perm (dueOf (L.eraseIdx j)) ∧ Turned X w w' ∧ Newer X w.heap.size X' := by
  obtain ⟨hh, hX⟩ := h.due
  have hp := dueOf_erase hj
  by_cases h0 : L[j].2.2 = 0
  · have hno : ∀ y ∈ D, y.2.1 ≠ L[j].1 := by
      intro y hy e
      obtain ⟨x, hx, hx0, rfl⟩ := dueOf_mem.1 (hD.subset hy)
      have := uniq hone hx (List.getElem_mem hj) e
      rw [this] at hx0
      exact hx0 h0
    refine (E.remove_none hh _ (WalkArith.wf_i64 hwf.1) hno).mono ?_
    rintro r w1 ⟨rfl, t1⟩
    refine ⟨_, X, Xh, D, rfl, h.keep0 t1, hD.trans (by simpa [dueOf, h0] using hp), t1.up, Newer.refl _ _⟩
  · have hin : ((L[j].2.2, L[j].1, ()) : Hm Unit) ∈ D := hD.symm.subset (dueOf_mem.2 ⟨_, List.getElem_mem hj, h0, rfl⟩)
    refine (E.remove_some hh hin).mono ?_
    rintro r w1 ⟨D', rfl, d1, d2, d3⟩
    obtain ⟨q1, q2, q3⟩ := h.dueT d3 (Newer.refl _ _) d2
    refine ⟨_, _, _, D', rfl, q1, ?_, q2, q3⟩
    have h1 : (((L[j].2.2, L[j].1, ()) : Hm Unit) :: D').Perm (((L[j].2.2, L[j].1, ()) : Hm Unit) :: dueOf (L.eraseIdx j)) := (d1.symm.trans hD).trans (by simpa [dueOf, h0] using hp)
    exact (List.perm_cons _).1 h1

set_option maxRecDepth 100000 in
set_option maxHeartbeats 1600000 in
theorem wlCancel_some (h : WlM w b X m e nB c L D g0 cap gm hb Xh) (hD : D.Perm (dueOf L)) {j : Nat} (hj : j < L.length) :
    Calls Try.prog 13 #[.pointer (some ⟨b, 0, none⟩), .int .i64 L[j].1] w fun r w' => r = .returned (.tuple #[aggW L[j], .bool true]) ∧
      ∃ X' Xh' D', WlM w' b X' m e nB c (L.eraseIdx j) D' g0 cap gm hb Xh' ∧ D'.Perm (dueOf (L.eraseIdx j)) ∧ Turned X w w' ∧ Newer X w.heap.size X' := by
  have HLT := Lib.hid h.lt
  obtain ⟨W, hW⟩ : ∃ W, w.alloc (wtC (0, 0, 0)) = W := ⟨_, rfl⟩
  have T0 : Turned [] w W := hW ▸ (Turned.refl [] w).alloc _
  have K0 : W.heap[w.heap.size]? = some (wtC (0, 0, 0)) := by rw [← hW]; exact heap_alloc_new w _
  have hlt : w.heap.size < W.heap.size := lt_of_block K0
  have HL := Lib.hid (wlLeave_some (h.keep0 T0) hj)
  have HDr := Lib.hid (fun (w2 : World) X2 (h2 : WlM w2 b X2 m e nB c (L.eraseIdx j) D g0 cap gm hb Xh) => wlDrop h.one hj (h.wf _ (List.getElem_mem hj)) h2 hD)
  have HT0 := Lib.hid T0
  have HK0 := Lib.hid K0
  obtain ⟨⟨v1, v2, v3⟩, hv⟩ : ∃ v, L[j] = v := ⟨_, rfl⟩
  rw [hv] at HL HDr ⊢
  simp only at HL HDr ⊢
  clear h hD hv hj T0 K0
  go_enter Try.func13, Try.ntmps13
  go_wp2_with fail
  (try rw [hW])
  clear hW
  with_reducible refine HL.out.mono ?_
  rintro r w1 ⟨rfl, X1, p1, t1, n1, _⟩
  obtain ⟨w2, hw2⟩ : ∃ w2, w1.alloc (wtC (v1, v2, v3)) = w2 := ⟨_, rfl⟩
  have t2 : Turned [] w1 w2 := hw2 ▸ (Turned.refl [] w1).alloc _
  have k2 : w2.heap[w1.heap.size]? = some (wtC (v1, v2, v3)) := hw2 ▸ heap_alloc_new w1 _
  have p2 := p1.keep0 t2
  have nx : w.heap.size ∉ X := fun hx => by have := HLT.out _ hx; omega
  have hz0 := HT0.out.size
  have hz1 := t1.size
  have nx1 : w.heap.size ∉ X1 := fun hx => by
    rcases n1 _ hx with h1 | h1
    · exact nx h1
    · omega
  have nx2 : w1.heap.size ∉ X1 := fun hx => by have := p1.lt _ hx; omega
  have K2 := t2.same (t1.same HK0.out nx) (by simp)
  obtain ⟨_, _, _, _, c4⟩ := cellsB p2.tab
  have HDD := Lib.hid (HDr.out w2 X1 p2)
  have HKB := Lib.hid k2
  have HK2 := Lib.hid K2
  have HN1 := Lib.hid nx1
  have HN2 := Lib.hid nx2
  have hne : w.heap.size ≠ w1.heap.size := by omega
  have HT2 := Lib.hid (show Turned X w w2 from (HT0.out.up.trans t1 (Newer.refl _ _)).trans t2.up (Newer.refl _ _))
  have HNN := Lib.hid (n1.mono hz0 : Newer X w.heap.size X1)
  clear p1 t1 n1 t2 k2 p2 nx nx1 nx2 K2 hz0 hz1 HDr
  go_wp2_with fail
  (try rw [hw2])
  clear hw2
  with_reducible refine HDD.out.mono ?_
  rintro r w3 ⟨v, X2, Xh2, D2, rfl, q1, q2, q3, q4⟩
  have k3 := q3.same HKB.out HN2.out
  have K3 := q3.same HK2.out HN1.out
  have MM := Lib.hid K3
  obtain ⟨s0, s1, s2, _⟩ := cells3a k3
  obtain ⟨r0, r1, r2, rf⟩ := cells3a K3
  have rf0 := rf 0
  have rf1 := rf 1
  have rf2 := rf 2
  have HNX := Lib.hid (show ∀ k ∈ X2, k ∉ [w.heap.size] from fun k hk hw => by
    simp at hw
    subst hw
    rcases q4 _ hk with h1 | h1
    · exact HN1.out h1
    · have := lt_of_block HK2.out; omega)
  have HF := Lib.hid (And.intro q1 (And.intro q2 (And.intro (HT2.out.trans q3 HNN.out) (HNN.out.trans q4 HT2.out.size))))
  clear q1 q2 q3 q4 k3 K3 rf c4
  go_wp2_with fail
  (try simp only [Exit.inBlock, Exit.then])
  refine bodyPost_ret (wt_result rfl rfl rfl (wt_stored MM.out)) rfl ?_
  obtain ⟨q1, q2, q3, q4⟩ := HF.out
  have ht3 : Turned [w.heap.size] w3 (((w3.setCell ⟨w.heap.size, 0, none⟩ (.int .i64 v1)).setCell ⟨w.heap.size, 1, none⟩ (.int .i64 v2)).setCell ⟨w.heap.size, 2, none⟩ (.int .u64 v3)) := (Turned.refl _ w3).set3w (.inl (by simp)) _ _ _
  exact ⟨rfl, X2, Xh2, D2, q1.keep ht3 HNX.out, q2, q3.trans ht3 (fun k hk => .inr (by simp at hk; omega)), q4⟩

set_option maxRecDepth 100000 in
set_option maxHeartbeats 1600000 in
theorem wlCancel_none (h : WlM w b X m e nB c L D g0 cap gm hb Xh) (a : Int) (ha : isI a) (hn : ∀ y ∈ L, y.1 ≠ a) :
    Calls Try.prog 13 #[.pointer (some ⟨b, 0, none⟩), .int .i64 a] w fun r w' => r = .returned (.tuple #[aggW (0, 0, 0), .bool false]) ∧ Turned [] w w' := by
  obtain ⟨W, hW⟩ : ∃ W, w.alloc (wtC (0, 0, 0)) = W := ⟨_, rfl⟩
  have T0 : Turned [] w W := hW ▸ (Turned.refl [] w).alloc _
  have K0 : W.heap[w.heap.size]? = some (wtC (0, 0, 0)) := by rw [← hW]; exact heap_alloc_new w _
  have hlt : w.heap.size < W.heap.size := lt_of_block K0
  have HL := Lib.hid (wlLeave_none (h.keep0 T0) a ha hn)
  have HT0 := Lib.hid T0
  have HK0 := Lib.hid K0
  clear h hn T0 K0
  go_enter Try.func13, Try.ntmps13
  go_wp2_with fail
  (try rw [hW])
  clear hW
  with_reducible refine HL.out.mono ?_
  rintro r w1 ⟨rfl, t1⟩
  have k3 := t1.same HK0.out (by simp)
  have hz1 := t1.size
  have hlt3 : w.heap.size < w1.heap.size := by omega
  have hne : w.heap.size ≠ w1.heap.size := by omega
  have MM := Lib.hid k3
  have HT4 := Lib.hid (HT0.out.j t1)
  obtain ⟨r0, r1, r2, rf⟩ := cells3a k3
  have rf0 := rf 0
  have rf1 := rf 1
  have rf2 := rf 2
  clear t1 k3 rf hz1
  go_wp2_with fail
  (try simp only [Exit.inBlock, Exit.then])
  refine bodyPost_ret (wt_result rfl rfl rfl ((Below.heap_alloc _ _ _ (lt_of_block (wt_stored MM.out))).trans (wt_stored MM.out))) rfl ?_
  exact ⟨rfl, (HT4.out.set3w (.inr (Nat.le_refl _)) _ _ _).alloc _⟩
end
end Go.Proofs.Ytiffgkmmibhklaa

/- The program's Wake. -/
namespace Go.Proofs.Ytiffgkmmibhklaa
open Go.RowKit Go.Maps

section
variable {w w' : World} {b : Nat} {X Y : List Nat} {m e : Int} {nB c : Nat} {g0 cap gm hb : Nat} {Xh : List Nat} {D : List (Hm Unit)} {L : List Wt}
theorem ownsRow_up {w : World} {base : Nat} {e : TypeId} {size : Nat} {v : Value} {n : Nat} {xs : List Value} (h : w.ownsRow 0 e size v n xs) (hb : ∀ g ∈ v.ownBlock.toList, base ≤ g) : w.ownsRow base e size v n xs := by
  refine ⟨h.1, ?_⟩
  rcases h.2 with h2 | ⟨g, cap, cur, rfl, _, h2⟩
  · exact .inl h2
  · exact .inr ⟨g, cap, cur, rfl, hb g (by simp [Value.ownBlock]), h2⟩
/-- The first one who waits for a key. -/
theorem key_list {L : List Wt} {a : Int} {j : Nat} (h : keyI L a = j) : ∃ (hj : j < L.length) (B : List Wt), forK L a = L[j] :: B := by
  obtain ⟨hj, hk⟩ := key_at h
  cases hf : forK L a with
  | nil => rw [key_none hf] at h; omega
  | cons v B =>
    obtain ⟨j', hj', h1, h2⟩ := key_first hf
    have : j' = j := by omega
    subst this
    exact ⟨hj', B, by rw [h2]⟩
theorem key_nil {L : List Wt} {a : Int} (h : keyI L a < 0) : forK L a = [] := by
  cases hf : forK L a with
  | nil => rfl
  | cons v B =>
    obtain ⟨j', hj', h1, h2⟩ := key_first hf
    omega

set_option maxRecDepth 100000 in
set_option maxHeartbeats 3200000 in
theorem wlWake (h : WlM w b X m e nB c L D g0 cap gm hb Xh) (hD : D.Perm (dueOf L)) (a n : Int) (hL : L.length ≤ 5000) :
    Calls Try.prog 11 #[.pointer (some ⟨b, 0, none⟩), .int .i64 a, .int .i64 n] w fun r w' => ∃ v, r = .returned v ∧ w'.ownsRow w.heap.size 3 1 v (wakeO a n.toNat L).length (intsW (wakeO a n.toNat L)) ∧
      ∃ X' Xh' D', WlM w' b X' m e nB c (wakeL a n.toNat L) D' g0 cap gm hb Xh' ∧ D'.Perm (dueOf (wakeL a n.toNat L)) ∧ Turned X w w' ∧ Newer X w.heap.size X' := by
  obtain ⟨i0, hi0, hz0, hz1, hz2⟩ := info_parts infoInt
  have HH := Lib.hid h
  have HDD := Lib.hid hD
  have hXl := Lib.hid h.lt
  clear h hD
  go_enter Try.func11, Try.ntmps11
  go_wp2
  go_loopg [7] L.length (fun g o wr => ∃ (M : List Wt) (O : List Int) (X' Xh' : List Nat) (D' : List (Hm Unit)), g = M.length ∧ M.length ≤ L.length ∧ O.length + M.length = L.length ∧ Hid (wr.ownsRow w.heap.size 3 1 o O.length (intsW O) ∧ ∀ k ∈ o.ownBlock.toList, k ∉ X') ∧ Hid (wakeO a n.toNat L = O ++ wakeO a (n.toNat - O.length) M ∧ wakeL a n.toNat L = wakeL a (n.toNat - O.length) M) ∧
    Hid (WlM wr b X' m e nB c M D' g0 cap gm hb Xh' ∧ D'.Perm (dueOf M)) ∧ Hid (Turned X w wr ∧ Newer X w.heap.size X'))
  case atStart => exact ⟨L, [], X, Xh, D, rfl, by omega, by simp, Lib.hid ⟨World.ownsRow_nil _ _ _ _, by simp [Value.ownBlock]⟩, Lib.hid ⟨by simp, by simp⟩, Lib.hid ⟨HH.out, HDD.out⟩, Lib.hid ⟨Turned.refl _ _, Newer.refl _ _⟩⟩
  case round =>
    obtain ⟨M, O, X', Xh', D', rfl, hml, hom, HO, HE, HR, HT⟩ := hrel
    obtain ⟨av, ac, rfl, _, _⟩ := ownsRow_shape HO.out.1
    obtain ⟨p, hp⟩ : ∃ p, O.length = p := ⟨_, rfl⟩
    rw [hp] at HO HE hom ⊢
    have HP := Lib.hid hp
    have fin : ∀ W, Turned [] wr W → wakeO a (n.toNat - p) M = [] → wakeL a (n.toNat - p) M = M → W.ownsRow w.heap.size 3 1 (.slice av p ac) (wakeO a n.toNat L).length (intsW (wakeO a n.toNat L)) ∧
        ∃ X' Xh' D', WlM W b X' m e nB c (wakeL a n.toNat L) D' g0 cap gm hb Xh' ∧ D'.Perm (dueOf (wakeL a n.toNat L)) ∧ Turned X w W ∧ Newer X w.heap.size X' := by
      intro W t h1 h2
      rw [HE.out.1, HE.out.2, h1, h2, List.append_nil, HP.out]
      exact ⟨ownsRow_same HO.out.1 fun k _ hl => t.block k hl (by simp), X', Xh', D', HR.out.1.keep0 t, HR.out.2, HT.out.1.trans t.up (Newer.refl _ _), HT.out.2⟩
    have HFin := Lib.hid fin
    clear fin hp
    by_cases hn : (p : Int) < n
    · have n1 : decide ((p : Int) < n) = true := by simpa using hn
      obtain ⟨k, hk⟩ : ∃ k, n.toNat - p = k + 1 := ⟨n.toNat - p - 1, by omega⟩
      rcases Int.lt_or_le (keyI M a) 0 with hneg | hpos
      · have hw := Lib.hid (wake_none hneg (n.toNat - p))
        have HF := Lib.hid (wlFirst_none HR.out.1 (key_nil hneg))
        clear hneg
        go_wp2_with fail
        with_reducible refine HF.out.mono ?_
        rintro r w1 ⟨rfl, t1⟩
        have HF1 := Lib.hid (HFin.out _ (t1.alloc (wtC (0, 0, 0))) hw.out.1 hw.out.2)
        clear t1
        go_wp2
        go_ret
        exact ⟨_, rfl, HF1.out⟩
      · obtain ⟨j, hj⟩ := Int.eq_ofNat_of_zero_le hpos
        obtain ⟨hjl, B, hB⟩ := key_list hj
        have hw := wake_some hj k
        have hgd : M.getD j (0, 0, 0) = M[j] := by simp [List.getD, hjl]
        rw [hgd] at hw
        have HF := Lib.hid (wlFirst_some HR.out.1 hB hjl rfl)
        have HDr := Lib.hid (fun (w2 : World) X2 (h2 : WlM w2 b X2 m e nB c (M.eraseIdx j) D' g0 cap gm hb Xh') => wlDrop HR.out.1.one hjl (HR.out.1.wf _ (List.getElem_mem hjl)) h2 HR.out.2)
        obtain ⟨⟨x1, x2, x3⟩, hx⟩ : ∃ x, M[j] = x := ⟨_, rfl⟩
        rw [hx] at HF HDr hw
        simp only at hw HF HDr
        have HWk := Lib.hid hw
        have HK := Lib.hid hk
        have hMe : (M.eraseIdx j).length = M.length - 1 := by rw [List.length_eraseIdx, if_pos hjl]
        have HMe := Lib.hid hMe
        have hm0 : 0 < M.length := by omega
        clear hx hj hpos hw hMe hk hgd hB
        go_wp2_with fail
        with_reducible refine HF.out.mono ?_
        rintro r w1 ⟨rfl, X1, p1, t1, q1⟩
        obtain ⟨w2, hw2⟩ : ∃ w2, w1.alloc (wtC (x1, x2, x3)) = w2 := ⟨_, rfl⟩
        have t2 : Turned [] w1 w2 := hw2 ▸ (Turned.refl [] w1).alloc _
        have k2 : w2.heap[w1.heap.size]? = some (wtC (x1, x2, x3)) := hw2 ▸ heap_alloc_new w1 _
        have p2 := p1.keep0 t2
        have nx2 : w1.heap.size ∉ X1 := fun hx => by have := p1.lt _ hx; omega
        have off1 : ∀ k ∈ (Value.slice av p ac).ownBlock.toList, k ∉ X1 := fun k hk hx => by
          rcases q1 _ hx with h1 | h1
          · exact HO.out.2 k hk h1
          · have := ownsRow_lt HO.out.1 k hk; omega
        have HO1 := Lib.hid (ownsRow_same (w' := w2) HO.out.1 fun k hk hl => (t1.trans t2.up (Newer.refl _ _) : Turned X' wr w2).block k hl (HO.out.2 k hk))
        have HOF := Lib.hid off1
        have T2 := Lib.hid (show Turned X w w2 from (HT.out.1.trans t1 HT.out.2).trans t2.up (Newer.refl _ _))
        have N2 := Lib.hid (show Newer X w.heap.size X1 from HT.out.2.trans q1 HT.out.1.size)
        obtain ⟨w3, hw3⟩ : ∃ w3, w2.drew = w3 := ⟨_, rfl⟩
        have t3 : Turned [] w2 w3 := hw3 ▸ (Turned.refl [] w2).drew
        have k3 := t3.same k2 (by simp)
        have p3 := p2.keep0 t3
        obtain ⟨s0, s1, s2, _⟩ := cells3a k3
        obtain ⟨_, _, _, _, c4⟩ := cellsB p3.tab
        have HDD2 := Lib.hid (HDr.out w3 X1 p3)
        have HK3 := Lib.hid k3
        have HT3 := Lib.hid t3
        have HNX := Lib.hid nx2
        have HS2 := Lib.hid (lt_of_block k2)
        clear p1 t1 q1 t2 k2 p2 nx2 off1 t3 k3 p3
        go_wp2_with fail
        (try rw [hw2])
        clear hw2
        go_wp2_with fail
        refine tail_at 6 hw3 (by kernel_rfl) (by kernel_rfl) ?_
        clear hw3
        simp only [List.take_succ_cons, List.take_zero, List.drop_succ_cons, List.drop_zero]
        repeat still_step
        refine wpStill_nil ?_
        go_wp2_with fail
        with_reducible refine HDD2.out.mono ?_
        rintro r w4 ⟨v, X4, Xh4, D4, rfl, r1, r2, r3, r4⟩
        have k4 := r3.same HK3.out HNX.out
        obtain ⟨q0, q1, q2, _⟩ := cells3a k4
        have hrow : w4.ownsRow w.heap.size 3 1 (.slice av p ac) p (intsW O) := by
          have h3 := ownsRow_same (w' := w3) HO1.out (fun k _ hl => HT3.out.block k hl (by simp))
          exact ownsRow_same h3 fun k hk hl => r3.block k hl (HOF.out k hk)
        have hlow : ∀ k ∈ (Value.slice av p ac).ownBlock.toList, w.heap.size ≤ k ∧ k < w2.heap.size := fun k hk => ⟨(hrow.lt k (by simpa using hk)).1, ownsRow_lt HO1.out k hk⟩
        have off4 : ∀ k ∈ (Value.slice av p ac).ownBlock.toList, k ∉ X4 := fun k hk hx => by
          rcases r4 _ hx with h1 | h1
          · exact HOF.out k hk h1
          · have := hlow k hk
            have := HT3.out.size
            omega
        have T4 := Lib.hid (show Turned X w w4 from (T2.out.trans HT3.out.up (Newer.refl _ _)).trans r3 N2.out)
        have N4 := Lib.hid (show Newer X w.heap.size X4 from N2.out.trans r4 (by have := T2.out.size; have := HT3.out.size; omega))
        have R4 := Lib.hid r1
        have D4' := Lib.hid r2
        have HRow := Lib.hid (ownsRow_base hrow (Nat.zero_le _))
        have HLow := Lib.hid hlow
        have HO4 := Lib.hid off4
        have HX4 := Lib.hid r1.lt
        clear r1 r2 r3 r4 k4 hrow hlow off4 s0 s1 s2 c4
        go_wp2_with (at_builtin; refine wpList_append_any _ rfl _ _ 29 rfl 3 i0 (.int .i64 0) 1 8 Try.underlying29 hi0 hz0 hz1 hz2 rfl (by decide) _ p (intsW O) rfl (HRow.out.alloc _) (some ⟨w4.heap.size, 0, none⟩) 1 1 [.int .i64 x1] rfl rfl ?c1 ?c2 ?c3 ?c4 ?c5 ?_)
        case c1 => simp
        case c2 =>
          intro ad had j u hj
          cases had
          match j, hj with
          | 0, hj => simp at hj; subst hj; exact one_cell w4 _ _
        case c3 => intro u hu; simp at hu; subst hu; rfl
        case c4 => unfold maxLen; omega
        case c5 => omega
        intro a' cap' w5 hown hgrow hnew
        have t5 : Turned (Value.slice av p ac).ownBlock.toList w4 w5 := Turned.grown (((Turned.refl [] w4).alloc (.cells #[.int .i64 x1] 3)).up) hgrow (fun k hk => .inl (by simp [hk]))
        have hbase : ∀ k ∈ (Value.slice a' (p + 1) cap').ownBlock.toList, w.heap.size ≤ k ∧ k ∉ X4 := fun k hk => by
          rcases hnew k (by simpa using hk) with h1 | h1
          · have h1 : k ∈ (Value.slice av p ac).ownBlock.toList := by simpa using h1
            exact ⟨(HLow.out k h1).1, HO4.out k h1⟩
          · have hs4 := T4.out.size
            have h2 : w4.heap.size < (w4.alloc (.cells #[.int .i64 x1] 3)).heap.size := by simp
            exact ⟨by omega, fun hx => by have := HX4.out k hx; omega⟩
        have hl1 : (O ++ [x1]).length = p + 1 := by simp [HP.out]
        have OO := Lib.hid (show w5.ownsRow w.heap.size 3 1 (.slice a' (p + 1) cap') (O ++ [x1]).length (intsW (O ++ [x1])) ∧ ∀ k ∈ (Value.slice a' (p + 1) cap').ownBlock.toList, k ∉ X4 from
          ⟨ownsRow_up (by rw [hl1]; simpa [intsW] using hown) (fun k hk => (hbase k hk).1), fun k hk => (hbase k hk).2⟩)
        have RR := Lib.hid (R4.out.keep t5 (fun k hk hx => HO4.out k hx hk))
        have TT := Lib.hid (T4.out.trans t5 (fun k hk => .inr (HLow.out k hk).1))
        clear hown hgrow hnew t5 hbase hl1
        go_wp2
        go_roundg ((M.eraseIdx j).length)
        case measure => rw [HMe.out]; omega
        case rel =>
          refine ⟨M.eraseIdx j, O ++ [x1], X4, Xh4, D4, rfl, by rw [HMe.out]; omega, by rw [HMe.out]; simp [HP.out]; omega, OO, Lib.hid ?_, Lib.hid ⟨RR.out, D4'.out⟩, Lib.hid ⟨TT.out, N4.out⟩⟩
          have hk1 : n.toNat - (O ++ [x1]).length = k := by have := HK.out; simp [HP.out]; omega
          rw [hk1, HE.out.1, HE.out.2, HK.out, HWk.out.1, HWk.out.2]
          simp
    · have n1 : decide ((p : Int) < n) = false := by simpa using hn
      have hk : n.toNat - p = 0 := by omega
      have HK := Lib.hid hk
      clear hk
      go_wp2
      go_ret
      exact ⟨_, rfl, HFin.out _ (Turned.refl _ _) (by rw [HK.out]; rfl) (by rw [HK.out]; rfl)⟩
end
end Go.Proofs.Ytiffgkmmibhklaa

/- The program's Requeue. -/
namespace Go.Proofs.Ytiffgkmmibhklaa
open Go.RowKit Go.Maps

theorem run_min_two {P : Program} {w : World} (ts : Array TypeId) (t : TypeId) (x y : Int) : (Builtin.min_ ts t #[.int .i64 x, .int .i64 y]).run P w = .ok (.int .i64 (min x y)) w := by
  rw [run_min_int2]
  congr 2
  split <;> omega
attribute [local go_sem ↓] run_min_two

/-- One sent elsewhere is due as it was. -/
theorem dueOf_sent {L : List Wt} {j : Nat} (hj : j < L.length) (t : Int) : (dueOf L).Perm (dueOf (sentL L j t)) := by
  have h1 := dueOf_erase hj
  have hgd : L.getD j (0, 0, 0) = L[j] := by simp [List.getD, hj]
  unfold sentL
  rw [dueOf_append, hgd]
  have h2 : dueOf [(L[j].1, t, L[j].2.2)] = dueOf [L[j]] := by simp [dueOf, List.filter_cons]; split <;> simp
  rw [h2]
  exact h1.trans List.perm_append_comm
theorem cnt_to {L : List Wt} {f t : Int} {j : Nat} (hj : j < L.length) (hk : L[j].2.1 = f) (hft : f ≠ t) : cntK (L.eraseIdx j) t = cntK L t ∧ cntK (sentL L j t) t = cntK L t + 1 := by
  have h1 := cnt_erase (a := t) hj
  rw [hk, if_neg hft] at h1
  refine ⟨by omega, ?_⟩
  unfold sentL
  rw [cnt_append]
  have : cntK [((L.getD j (0, 0, 0)).1, t, (L.getD j (0, 0, 0)).2.2)] t = 1 := by simp [cntK]
  omega

section
variable {w w' : World} {b : Nat} {X Y : List Nat} {m e : Int} {nB c : Nat} {g0 cap gm hb : Nat} {Xh : List Nat} {D : List (Hm Unit)} {L : List Wt}
set_option maxHeartbeats 400000 in
theorem wlReq_same (f n : Int) (p : Option Addr) (w : World) : Calls Try.prog 16 #[.pointer p, .int .i64 f, .int .i64 f, .int .i64 n] w fun r w' => r = .returned (.int .i64 0) ∧ w = w' := by
  have z : (f == f) = true := by simp
  cases p with
  | none =>
    go_enter Try.func16, Try.ntmps16
    go_wp2
    go_ret
    exact ⟨rfl, rfl⟩
  | some a =>
    go_enter Try.func16, Try.ntmps16
    go_wp2
    go_ret
    exact ⟨rfl, rfl⟩

set_option maxRecDepth 100000 in
set_option maxHeartbeats 3200000 in
theorem wlReq (h : WlM w b X m e nB c L D g0 cap gm hb Xh) (hD : D.Perm (dueOf L)) (f t n : Int) (hft : f ≠ t) (ht : isI t) (hn : isI n) (hL : L.length ≤ 5000) (hc : c ≤ 90000) :
    Calls Try.prog 16 #[.pointer (some ⟨b, 0, none⟩), .int .i64 f, .int .i64 t, .int .i64 n] w fun r w' => r = .returned (.int .i64 (reqN f t e n.toNat L : Nat)) ∧
      ∃ X', WlM w' b X' m e nB (c + L.length) (reqL f t e n.toNat L) D g0 cap gm hb Xh ∧ D.Perm (dueOf (reqL f t e n.toNat L)) ∧ Turned X w w' ∧ Newer X w.heap.size X' := by
  have he : 0 ≤ e ∧ e ≤ 4096 := by obtain ⟨_, _, _, _, _, _, he⟩ := h; exact he
  have HLT := Lib.hid h.lt
  have HC := Lib.hid (fun (w2 : World) (t2 : Turned [] w w2) => wlCountM (h.keep0 t2) t)
  have HS := Lib.hid (fun (w2 : World) (t2 : Turned [] w w2) => (cellsB (h.keep0 t2).tab).2.1)
  have hb0 := (cellsB h.tab).2.1
  have HH := Lib.hid h
  have HDD := Lib.hid hD
  obtain ⟨q, hq⟩ : ∃ q, cntK L t = q := ⟨_, rfl⟩
  have hcl := cnt_le L t
  rw [hq] at HC hcl
  have HQ := Lib.hid hq
  have HN := Lib.hid hn
  have z : (f == t) = false := by simpa using hft
  have hwr : IntKind.i64.wrap (e - (q : Int)) = e - (q : Int) := by rw [IntKind.wrap_i64]; omega
  clear h hD hq hn
  go_enter Try.func16, Try.ntmps16
  go_wp2_with fail
  go_region_held3 (fun w' => w'.cell? ⟨b, 1, none⟩ = some (.int .i64 e) ∧ Turned [] w w')
    (first | with_reducible exact ⟨f1, ft⟩ | with_reducible exact ⟨HS.out _ (Turned.refl [] w).drew, (Turned.refl [] w).drew⟩)
    (first
      | (go_at_call 24
         with_reducible refine (HC.out _ ((Turned.refl [] w).drew)).mono ?_
         rintro r w2 ⟨rfl, t2⟩
         have f1 := HS.out _ (((Turned.refl [] w).drew).j t2)
         have ft := ((Turned.refl [] w).drew).j t2
         clear t2))
  all_goals
    obtain ⟨nn, hnn⟩ : ∃ nn, min n (e - (q : Int)) = nn := ⟨_, rfl⟩
    rw [hnn]
    have HNN := Lib.hid hnn
    have HT0 := Lib.hid ft
    clear ft f1 hnn hb0 hwr
    go_wp2
    go_loopg [9] (cntK L f) (fun g o wr => ∃ (M : List Wt) (k : Nat) (X' : List Nat), g = cntK M f ∧ o = .int .i64 k ∧ M.length = L.length ∧ k + cntK M f ≤ L.length ∧ cntK M t = q + k ∧ Hid (reqN f t e n.toNat L = k + reqN f t e (n.toNat - k) M ∧ reqL f t e n.toNat L = reqL f t e (n.toNat - k) M) ∧
      Hid (WlM wr b X' m e nB (c + k) M D g0 cap gm hb Xh ∧ D.Perm (dueOf M)) ∧ Hid (Turned X w wr ∧ Newer X w.heap.size X'))
    case atStart => exact ⟨L, 0, X, rfl, rfl, rfl, by have := cnt_le L f; omega, by rw [HQ.out]; rfl, Lib.hid ⟨by simp, by simp⟩, Lib.hid ⟨HH.out.keep0 HT0.out, HDD.out⟩, Lib.hid ⟨HT0.out.up, Newer.refl _ _⟩⟩
    case round =>
      obtain ⟨M, k, X', rfl, rfl, hml, hkc, hct, HE, HR, HT⟩ := hrel
      have HKC := Lib.hid hkc
      have fin : ∀ W, Turned [] wr W → reqN f t e (n.toNat - k) M = 0 → reqL f t e (n.toNat - k) M = M → (reqN f t e n.toNat L = k) ∧
          ∃ X', WlM W b X' m e nB (c + L.length) (reqL f t e n.toNat L) D g0 cap gm hb Xh ∧ D.Perm (dueOf (reqL f t e n.toNat L)) ∧ Turned X w W ∧ Newer X w.heap.size X' := by
        intro W t1 h1 h2
        rw [HE.out.1, HE.out.2, h1, h2]
        exact ⟨rfl, X', (HR.out.1.keep0 t1).more (by omega), HR.out.2, HT.out.1.trans t1.up (Newer.refl _ _), HT.out.2⟩
      have HFin := Lib.hid fin
      clear fin
      by_cases hlt : (k : Int) < nn
      · have n1 : decide ((k : Int) < nn) = true := by simpa using hlt
        have hkn : (k : Int) < n ∧ (cntK M t : Int) < e := by have := HNN.out; omega
        obtain ⟨r, hr⟩ : ∃ r, n.toNat - k = r + 1 := ⟨n.toNat - k - 1, by omega⟩
        rcases Int.lt_or_le (keyI M f) 0 with hneg | hpos
        · have hw := Lib.hid (req_none (t := t) (e := e) (.inl hneg) (n.toNat - k))
          have HF := Lib.hid (wlFirst_none HR.out.1 (key_nil hneg))
          clear hneg hkn
          go_wp2_with fail
          with_reducible refine HF.out.mono ?_
          rintro r w1 ⟨rfl, t1⟩
          have HF1 := Lib.hid (HFin.out _ (t1.alloc (wtC (0, 0, 0))) hw.out.1 hw.out.2)
          clear t1
          go_wp2
          go_ret
          exact ⟨by rw [HF1.out.1]; rfl, HF1.out.2⟩
        · obtain ⟨j, hj⟩ := Int.eq_ofNat_of_zero_le hpos
          obtain ⟨hjl, B, hB⟩ := key_list hj
          obtain ⟨_, hjk⟩ := key_at hj
          have hw := req_some (t := t) (e := e) hj (by omega) r
          have hs := cnt_sent hj hft
          have hto := cnt_to hjl hjk hft
          have hdue := dueOf_sent hjl t
          have hgd : M.getD j (0, 0, 0) = M[j] := by simp [List.getD, hjl]
          have hsl : sentL M j t = M.eraseIdx j ++ [(M[j].1, t, M[j].2.2)] := by unfold sentL; rw [hgd]
          have hwf := HR.out.1.wf _ (List.getElem_mem hjl)
          have hnot : ∀ y ∈ M.eraseIdx j, y.1 ≠ M[j].1 := fun y hy => by
            rw [erase_filter HR.out.1.one hjl] at hy
            simpa using (List.mem_filter.1 hy).2
          have HF := Lib.hid (wlFirst_some HR.out.1 hB hjl rfl)
          have hMe : (M.eraseIdx j).length = M.length - 1 := by rw [List.length_eraseIdx, if_pos hjl]
          have HEn := Lib.hid (fun (w2 : World) X2 (h2 : WlM w2 b X2 m e nB (c + k) (M.eraseIdx j) D g0 cap gm hb Xh) => wlEnter h2 (M[j].1, t, M[j].2.2) ⟨hwf.1, ht, hwf.2.2⟩ hnot (by rw [hto.1]; exact hkn.2) (by omega) (by omega))
          rw [hsl] at hw hs hto hdue
          obtain ⟨⟨x1, x2, x3⟩, hx⟩ : ∃ x, M[j] = x := ⟨_, rfl⟩
          rw [hx] at HF HEn hw hs hto hdue
          simp only at hw HF HEn hs hto hdue
          have HWk := Lib.hid hw
          have HS2 := Lib.hid hs
          have HTO := Lib.hid hto
          have HDU := Lib.hid hdue
          have HK := Lib.hid hr
          have hcp : 0 < cntK M f := by have := hs.1; omega
          have p1 : IntKind.i64.wrap ((k : Int) + 1) = (k : Int) + 1 := by rw [IntKind.wrap_i64]; omega
          clear hx hj hpos hw hMe hr hgd hB hsl hwf hnot hs hto hdue hjk
          go_wp2_with fail
          with_reducible refine HF.out.mono ?_
          rintro r w1 ⟨rfl, X1, q1, t1, n2⟩
          have HZ := Lib.hid (And.intro q1 (And.intro t1 n2))
          clear q1 t1 n2
          go_wp2_with fail
          refine (HEn.out _ X1 (HZ.out.1.keep0 ((Turned.refl [] w1).alloc (wtC (x1, t, x3))))).mono ?_
          rintro r w4 ⟨rfl, X4, u1, u2, u3⟩
          have HR4 := Lib.hid u1
          have HT4 : Hid (Turned X w w4 ∧ Newer X w.heap.size X4) := Lib.hid (by
            obtain ⟨_, t1, n2⟩ := HZ.out
            have ha := (Turned.refl [] w1).alloc (wtC (x1, t, x3))
            have t2 : Turned X w w1 := HT.out.1.trans t1 HT.out.2
            have n3 : Newer X w.heap.size X1 := HT.out.2.trans n2 HT.out.1.size
            exact ⟨(t2.trans ha.up (Newer.refl _ _)).trans u2 n3, n3.trans u3 (by have := t2.size; have := ha.size; omega)⟩)
          clear u1 u2 u3
          go_wp2
          go_roundg (cntK (M.eraseIdx j ++ [(x1, t, x3)]) f)
          case measure => have := HS2.out.1; omega
          case rel =>
            refine ⟨M.eraseIdx j ++ [(x1, t, x3)], k + 1, X4, rfl, by simp, by rw [HS2.out.2]; exact hml, by have := HS2.out.1; have := HKC.out; omega, by rw [HTO.out.2]; omega, Lib.hid ?_, Lib.hid ⟨by have := HR4.out; rwa [Nat.add_assoc] at this, HR.out.2.trans HDU.out⟩, HT4⟩
            have hk1 : n.toNat - (k + 1) = r := by have := HK.out; omega
            rw [hk1, HE.out.1, HE.out.2, HK.out, HWk.out.1, HWk.out.2]
            exact ⟨by omega, rfl⟩
      · have n1 : decide ((k : Int) < nn) = false := by simpa using hlt
        have hk : n.toNat - k = 0 ∨ e ≤ cntK M t := by have := HNN.out; omega
        have HK : Hid (reqN f t e (n.toNat - k) M = 0 ∧ reqL f t e (n.toNat - k) M = M) := Lib.hid (by
          rcases hk with hk | hk
          · rw [hk]; exact ⟨rfl, rfl⟩
          · exact req_none (.inr hk) _)
        clear hk
        have HF1 := Lib.hid (HFin.out _ (Turned.refl _ _) HK.out.1 HK.out.2)
        go_wp2
        go_ret
        exact ⟨by rw [HF1.out.1]; rfl, HF1.out.2⟩
end
end Go.Proofs.Ytiffgkmmibhklaa
