/-
  The program's calls of a nil table.
-/
import Derived.Test.YtiffgkmmibhklaaGO
import Derived.Test.YtiffgkmmibhklaaWqOnce
namespace Go.Proofs.Ytiffgkmmibhklaa
open Go.RowKit Go.Maps Go.Shelf
attribute [local go_sem] Oper.semAt_some

set_option maxHeartbeats 800000 in
theorem nilWait (x : Wt) (w : World) : Calls Try.prog 8 #[.pointer none, aggW x] w fun r w' => r = .returned (.int .i64 1) ∧ Turned [] w w' := by
  have HT := Lib.hid ((Turned.refl [] w).alloc (wtC x))
  go_enter Try.func8, Try.ntmps8
  go_wp2
  go_ret
  exact ⟨rfl, HT.out⟩
set_option maxHeartbeats 800000 in
theorem nilCount (a : Int) (w : World) : Calls Try.prog 24 #[.pointer none, .int .i64 a] w fun r w' => r = .returned (.int .i64 0) ∧ Turned [] w w' := by
  have HS := Lib.hid (wlQueue_nil a w)
  go_enter Try.func24, Try.ntmps24
  go_wp2_with fail
  with_reducible refine HS.out.mono ?_
  rintro r w1 ⟨rfl, rfl⟩
  go_wp2_with fail
  refine (Wq.fqlen_nil _).mono ?_
  rintro r w2 ⟨rfl, rfl⟩
  go_wp2
  go_ret
  exact ⟨rfl, Turned.refl _ _⟩
set_option maxHeartbeats 800000 in
theorem nilRequeue (f t n : Int) (w : World) : Calls Try.prog 16 #[.pointer none, .int .i64 f, .int .i64 t, .int .i64 n] w fun r w' => r = .returned (.int .i64 0) ∧ Turned [] w w' := by
  go_enter Try.func16, Try.ntmps16
  go_wp2
  go_ret
  exact ⟨rfl, Turned.refl _ _⟩

set_option maxRecDepth 100000 in
set_option maxHeartbeats 1600000 in
theorem nilLeave (a : Int) (w : World) : Calls Try.prog 33 #[.pointer none, .int .i64 a] w fun r w' => r = .returned (.tuple #[aggW (0, 0, 0), .bool false]) ∧ Turned [] w w' := by
  obtain ⟨W, hW⟩ : ∃ W, w.alloc (wtC (0, 0, 0)) = W := ⟨_, rfl⟩
  have T0 : Turned [] w W := hW ▸ (Turned.refl [] w).alloc _
  have K0 : W.heap[w.heap.size]? = some (wtC (0, 0, 0)) := by rw [← hW]; exact heap_alloc_new w _
  have hlt : w.heap.size < W.heap.size := lt_of_block K0
  have HS := Lib.hid (wlSeat_nil a W)
  have HT0 := Lib.hid T0
  have HK0 := Lib.hid K0
  clear T0 K0
  go_enter Try.func33, Try.ntmps33
  go_wp2_with fail
  (try rw [hW])
  clear hW
  with_reducible refine HS.out.mono ?_
  rintro r w1 ⟨rfl, t1⟩
  obtain ⟨w2, hw2⟩ : ∃ w2, w1.alloc (.cells #[.pointer none, .int .i64 0] tSt) = w2 := ⟨_, rfl⟩
  have t2 : Turned [] w1 w2 := hw2 ▸ (Turned.refl [] w1).alloc _
  have k2 : w2.heap[w1.heap.size]? = some (.cells #[.pointer none, .int .i64 0] tSt (0, 0)) := hw2 ▸ heap_alloc_new w1 _
  have HR := Lib.hid (Wq.fqremove_nil 0 w2)
  have HT2 := Lib.hid ((HT0.out.j t1).j t2)
  have K2 := Lib.hid ((t1.j t2).same HK0.out (by simp))
  have HZ := Lib.hid (t1.j t2).size
  obtain ⟨d0, d1, _⟩ := two_cells k2
  have HW2 := Lib.hid hw2
  clear t1 t2 k2 hw2
  go_wp2_with fail
  (try rw [HW2.out])
  with_reducible refine HR.out.mono ?_
  rintro r w3 ⟨rfl, t3⟩
  have hz := HT2.out.size
  have hz3 := t3.size
  have hz4 := HZ.out
  have k3 := t3.same K2.out (by simp)
  have hlt3 : w.heap.size < w3.heap.size := by omega
  have hne : w.heap.size ≠ w3.heap.size := by omega
  have MM := Lib.hid k3
  have HT4 := Lib.hid (HT2.out.j t3)
  obtain ⟨r0, r1, r2, rf⟩ := cells3a k3
  have rf0 := rf 0
  have rf1 := rf 1
  have rf2 := rf 2
  clear t3 k3 rf hz hz3 hz4
  go_wp2_with fail
  (try simp only [Exit.inBlock, Exit.then])
  refine bodyPost_ret (wt_result rfl rfl rfl ((Below.heap_alloc _ _ _ (lt_of_block (wt_stored MM.out))).trans (wt_stored MM.out))) rfl ?_
  exact ⟨rfl, (HT4.out.set3w (.inr (Nat.le_refl _)) _ _ _).alloc _⟩
set_option maxRecDepth 100000 in
set_option maxHeartbeats 1600000 in
theorem nilFirst (a : Int) (w : World) : Calls Try.prog 30 #[.pointer none, .int .i64 a] w fun r w' => r = .returned (.tuple #[aggW (0, 0, 0), .bool false]) ∧ Turned [] w w' := by
  obtain ⟨W, hW⟩ : ∃ W, w.alloc (wtC (0, 0, 0)) = W := ⟨_, rfl⟩
  have T0 : Turned [] w W := hW ▸ (Turned.refl [] w).alloc _
  have K0 : W.heap[w.heap.size]? = some (wtC (0, 0, 0)) := by rw [← hW]; exact heap_alloc_new w _
  have hlt : w.heap.size < W.heap.size := lt_of_block K0
  have HS := Lib.hid (wlQueue_nil a W)
  have HR := Lib.hid (Wq.fqpop_nil W)
  have HT0 := Lib.hid T0
  have HK0 := Lib.hid K0
  clear T0 K0
  go_enter Try.func30, Try.ntmps30
  go_wp2_with fail
  (try rw [hW])
  clear hW
  with_reducible refine HS.out.mono ?_
  rintro r w2 ⟨rfl, rfl⟩
  go_wp2_with fail
  with_reducible refine HR.out.mono ?_
  rintro r w3 ⟨rfl, t3⟩
  have hz3 := t3.size
  have k3 := t3.same HK0.out (by simp)
  have hlt3 : w.heap.size < w3.heap.size := by omega
  have hne : w.heap.size ≠ w3.heap.size := by omega
  have MM := Lib.hid k3
  have HT4 := Lib.hid (HT0.out.j t3)
  obtain ⟨r0, r1, r2, rf⟩ := cells3a k3
  have rf0 := rf 0
  have rf1 := rf 1
  have rf2 := rf 2
  clear t3 k3 rf hz3
  go_wp2_with fail
  (try simp only [Exit.inBlock, Exit.then])
  refine bodyPost_ret (wt_result rfl rfl rfl ((Below.heap_alloc _ _ _ (lt_of_block (wt_stored MM.out))).trans (wt_stored MM.out))) rfl ?_
  exact ⟨rfl, (HT4.out.set3w (.inr (Nat.le_refl _)) _ _ _).alloc _⟩
set_option maxRecDepth 100000 in
set_option maxHeartbeats 1600000 in
theorem nilCancel (a : Int) (w : World) : Calls Try.prog 13 #[.pointer none, .int .i64 a] w fun r w' => r = .returned (.tuple #[aggW (0, 0, 0), .bool false]) ∧ Turned [] w w' := by
  obtain ⟨W, hW⟩ : ∃ W, w.alloc (wtC (0, 0, 0)) = W := ⟨_, rfl⟩
  have T0 : Turned [] w W := hW ▸ (Turned.refl [] w).alloc _
  have K0 : W.heap[w.heap.size]? = some (wtC (0, 0, 0)) := by rw [← hW]; exact heap_alloc_new w _
  have hlt : w.heap.size < W.heap.size := lt_of_block K0
  have HL := Lib.hid (nilLeave a W)
  have HT0 := Lib.hid T0
  have HK0 := Lib.hid K0
  clear T0 K0
  go_enter Try.func13, Try.ntmps13
  go_wp2_with fail
  (try rw [hW])
  clear hW
  with_reducible refine HL.out.mono ?_
  rintro r w1 ⟨rfl, t1⟩
  have k3 := t1.same HK0.out (by simp)
  have hz1 := t1.size
  have hlt3 : w.heap.size < w1.heap.size := by omega
  have hne : w.heap.size ≠ w1.heap.size := by omega
  have MM := Lib.hid k3
  have HT4 := Lib.hid (HT0.out.j t1)
  obtain ⟨r0, r1, r2, rf⟩ := cells3a k3
  have rf0 := rf 0
  have rf1 := rf 1
  have rf2 := rf 2
  clear t1 k3 rf hz1
  go_wp2_with fail
  (try simp only [Exit.inBlock, Exit.then])
  refine bodyPost_ret (wt_result rfl rfl rfl ((Below.heap_alloc _ _ _ (lt_of_block (wt_stored MM.out))).trans (wt_stored MM.out))) rfl ?_
  exact ⟨rfl, (HT4.out.set3w (.inr (Nat.le_refl _)) _ _ _).alloc _⟩
set_option maxRecDepth 100000 in
set_option maxHeartbeats 800000 in
theorem nilWho (a : Int) (w : World) : Calls Try.prog 19 #[.pointer none, .int .i64 a] w fun r w' => r = .returned (.tuple #[aggW (0, 0, 0), .bool false]) ∧ Turned [] w w' := by
  obtain ⟨W, hW⟩ : ∃ W, w.alloc (wtC (0, 0, 0)) = W := ⟨_, rfl⟩
  have T0 : Turned [] w W := hW ▸ (Turned.refl [] w).alloc _
  have K0 : W.heap[w.heap.size]? = some (wtC (0, 0, 0)) := by rw [← hW]; exact heap_alloc_new w _
  have hlt : w.heap.size < W.heap.size := lt_of_block K0
  have HS := Lib.hid (wlSeat_nil a W)
  have HT0 := Lib.hid T0
  have HK0 := Lib.hid K0
  clear T0 K0
  go_enter Try.func19, Try.ntmps19
  go_wp2_with fail
  (try rw [hW])
  clear hW
  with_reducible refine HS.out.mono ?_
  rintro r w1 ⟨rfl, t1⟩
  obtain ⟨w2, hw2⟩ : ∃ w2, w1.alloc (.cells #[.pointer none, .int .i64 0] tSt) = w2 := ⟨_, rfl⟩
  have t2 : Turned [] w1 w2 := hw2 ▸ (Turned.refl [] w1).alloc _
  have k2 : w2.heap[w1.heap.size]? = some (.cells #[.pointer none, .int .i64 0] tSt (0, 0)) := hw2 ▸ heap_alloc_new w1 _
  have HR := Lib.hid (Wq.fqget_nil 0 w2)
  have HT2 := Lib.hid ((HT0.out.j t1).j t2)
  have K2 := Lib.hid ((t1.j t2).same HK0.out (by simp))
  obtain ⟨d0, d1, _⟩ := two_cells k2
  have HW2 := Lib.hid hw2
  clear t1 t2 k2 hw2
  go_wp2_with fail
  (try rw [HW2.out])
  with_reducible refine HR.out.mono ?_
  rintro r w3 ⟨rfl, t3⟩
  have k3 := t3.same K2.out (by simp)
  have MM := Lib.hid k3
  have HT3 := Lib.hid (HT2.out.j t3)
  obtain ⟨r0, r1, r2, rf⟩ := cells3a k3
  have rf0 := rf 0
  have rf1 := rf 1
  have rf2 := rf 2
  clear t3 k3 rf
  go_wp2_with fail
  (try simp only [Exit.inBlock, Exit.then])
  refine bodyPost_ret (wt_result rfl rfl rfl (wt_stored MM.out)) rfl ?_
  exact ⟨rfl, HT3.out.set3w (.inr (Nat.le_refl _)) _ _ _⟩

set_option maxRecDepth 100000 in
set_option maxHeartbeats 1600000 in
theorem nilWake (a n : Int) (w : World) : Calls Try.prog 11 #[.pointer none, .int .i64 a, .int .i64 n] w fun r w' => (∃ ad cap, r = .returned (.slice ad 0 cap)) ∧ Turned [] w w' := by
  have HF := Lib.hid (nilFirst a w)
  go_enter Try.func11, Try.ntmps11
  go_wp2
  go_loopg [7] 0 (fun g o wr => o = .slice none 0 0 ∧ g = 0 ∧ w = wr)
  case atStart => exact ⟨rfl, rfl, rfl⟩
  case round =>
    obtain ⟨rfl, rfl, rfl⟩ := hrel
    by_cases hn : 0 < n
    · have n1 : decide (0 < n) = true := by simpa using hn
      go_wp2_with fail
      with_reducible refine HF.out.mono ?_
      rintro r w1 ⟨rfl, t1⟩
      have HT := Lib.hid (t1.alloc (wtC (0, 0, 0)))
      clear t1
      go_wp2
      go_ret
      exact ⟨⟨_, _, rfl⟩, HT.out⟩
    · have n1 : decide (0 < n) = false := by simpa using hn
      go_wp2
      go_ret
      exact ⟨⟨_, _, rfl⟩, Turned.refl _ _⟩

set_option maxRecDepth 100000 in
set_option maxHeartbeats 1600000 in
/-- A nil table's Of hands out nothing. -/
theorem nilOf_seq {n n₀ : Nat} {w : World} {Bx B : Nat} (hb : w.heap[Bx]? = some (.cells #[allF B] tSq (0, 0))) (hk : Wq.KeptN n₀ w B []) :
    TurnSeq Fence.wide n Try.prog 43 #[.pointer (some ⟨Bx, 0, none⟩)] encY [] [] (fun _ => False) (fun xs _ => xs = []) (fun _ _ => False) w := by
  obtain ⟨Y, hY, hseq⟩ := Wq.all1_seq (n := 19) (by omega) hk (by simp)
  intro l J Jx W hW hJ hYi hj0
  have b0 := cell1 (hW.same hb (by simp))
  have hbl : Bx < W.heap.size := Nat.lt_of_lt_of_le (lt_of_block hb) hW.size
  have HJ := Lib.hid hJ
  have HSQ := Lib.hid hseq
  have HYY := Lib.hid hY
  have HJ0 := Lib.hid hj0
  have HTW := Lib.hid hW
  clear hJ hYi hseq hY hb hk hj0 hW
  refine callsIn_of_wp_marks Try.func43 rfl trivial ?_ rfl
  simp only [Try.ntmps43, List.size_toArray, List.length_cons, List.length_nil, Nat.reduceAdd, Nat.reduceSub, Array.replicate_succ, Array.replicate_zero, List.push_toArray, List.append_toArray, List.nil_append, List.cons_append]
  refine wpIn_wide.2 ?_
  obtain ⟨W1, hW1⟩ : ∃ W1, W.alloc (.cells #[.func (.yield l) #[] #[]] tYw) = W1 := ⟨_, rfl⟩
  have t1 : Turned [] W W1 := hW1 ▸ (Turned.refl [] W).alloc _
  have HT1 := Lib.hid t1
  have hYW : ∀ k ∈ Y, k < W1.heap.size := fun k hk => by have h1 := (HYY.out k hk).2; have := HTW.out.size; have := t1.size; omega
  have HYW := Lib.hid hYW
  have HW1 := Lib.hid hW1
  clear t1 hYW hW1
  go_wp2_with fail
  (try rw [HW1.out])
  refine (wpIn_wide (n := 20)).1 ?_
  have hsq := (TurnSeq.s HSQ.out).later (HTW.out.j HT1.out)
  refine range_turnsW rfl (by omega) rfl trivial (fun _ _ => rfl) (by simp) HYW.out hsq (fun _ => rfl) (fun _ _ _ h _ => h) (fun _ _ _ h _ => h) (fun _ _ _ h _ => h)
    (fun xs V => Turned [] W V ∧ W1.heap.size + 2 ≤ V.heap.size) (fun _ _ _ => False)
    ?hI (fun _ _ _ _ h _ => h.elim) ?h0 (fun _ _ h => h.2) tW (fun x => #[.int .i64 x.2.1, .int .i64 x.2.2.1, .int .u64 x.2.2.2]) ?a1 ?assign ?body ?done (fun _ _ _ _ h _ => h.elim)
  case assign =>
    intro l' x Bk V K hBk hK
    gi_wp2
    exact hK
  case hI =>
    rintro xs A V ⟨h1, h2⟩ ht
    have hs1 := HT1.out.size
    exact ⟨h1.trans ht (fun k hk => .inr (by simp at hk; omega)), Nat.le_trans h2 ht.size⟩
  case h0 =>
    intro V tV hV
    exact ⟨HT1.out.j tV, hV⟩
  case body =>
    rintro l' pre x Bk V _ _ _ hsp
    simp at hsp
  case done =>
    rintro xs V rfl ⟨h1, h2⟩ hK
    have hs1 := HT1.out.size
    have HF := Lib.hid (HJ.out _ _ _ HJ0.out (h1.put (l := W1.heap.size) hs1 (.deferred none)))
    have HKK := Lib.hid hK
    clear h1 h2 hK
    go_wp2
    refine ⟨by simp, .inl ⟨_, _, rfl, run_takeDeferred HKK.out, ?_⟩⟩
    exact ⟨_, results_none rfl _ _ _, ⟨_, rfl⟩, HF.out⟩
set_option maxHeartbeats 800000 in
theorem nilExpire_seq {n : Nat} {w : World} : TurnSeq Fence.wide n Try.prog 38 #[] encY [] [] (fun _ => False) (fun xs _ => xs = []) (fun _ _ => False) w := by
  intro l J Jx W hW hJ hYi hj0
  have HJ0 := Lib.hid hj0
  clear hJ hYi hj0 hW
  refine callsIn_of_wp Try.func38 rfl trivial ?_ rfl
  simp only [Try.ntmps38, List.size_toArray, List.length_cons, List.length_nil, Nat.reduceAdd, Nat.reduceSub, Array.replicate_succ, Array.replicate_zero, List.push_toArray, List.append_toArray, List.nil_append, List.cons_append]
  gi_wp2
  go_end0
  exact ⟨⟨_, rfl⟩, .inl ⟨[], rfl, HJ0.out⟩⟩

theorem wqNil : WqNil where
  wait := nilWait
  wake := nilWake
  cancel := nilCancel
  requeue := nilRequeue
  count := nilCount
  who := nilWho
  len := fun w => (wlLen_nil w).mono fun _ _ ⟨h1, h2⟩ => ⟨h1, 0, h2.symm⟩
  of := fun a w => (wlOf_nil a w).mono fun _ _ ⟨_, _, h1, h2, h3, h4⟩ => ⟨_, _, h1, h2, fun _ _ => rfl, fun _ _ => nilOf_seq h3 h4⟩
  expire := fun u w => (wlExpire_nil u w).mono fun _ _ ⟨h1, h2⟩ => ⟨_, _, h1, h2, fun _ _ => rfl, fun _ _ => nilExpire_seq⟩
end Go.Proofs.Ytiffgkmmibhklaa
