/-
  The document's waiters: Wait, Take.
-/
import Derived.Test.YtiffgkmmibhklaaWqRef
import Derived.Laws.ResultCell
namespace Go.Proofs.Ytiffgkmmibhklaa
open Go.RowKit

theorem infoW : (Try.prog.info? tW).map (fun i => (i.zero, i.size, i.bytes)) = some (some (.agg #[.int .i64 0, .int .i64 0, .int .u64 0]), 3, 24) := by kernel_rfl
theorem three_new_at (w : World) (B : Nat) (hB : w.heap.size = B) (x y z : Value) (t : TypeId) : ∀ j u, [x, y, z][j]? = some u → (w.alloc (.cells #[x, y, z] t)).cell? ((⟨B, 0, none⟩ : Addr).add j) = some u := by
  subst hB
  intro j u hj
  have hh := heap_alloc_new w (.cells #[x, y, z] t)
  rw [Addr.add_lit]
  simp only [World.cell?, hh]
  match j, hj with
  | 0, hj => simpa using hj
  | 1, hj => simpa using hj
  | 2, hj => simpa using hj

/-- What Wait answers, and who waits behind it. -/
def waitE (m e : Int) (L : List Wt) (x : Wt) : Int := if 0 ≤ whoI L x.1 then 12 else if m ≤ L.length ∨ e ≤ cntK L x.2.1 then 3 else 0
def waitL (m e : Int) (L : List Wt) (x : Wt) : List Wt := if waitE m e L x = 0 then L ++ [x] else L

set_option maxHeartbeats 800000 in
theorem rwait_no {w : World} {b : Nat} {X : List Nat} {m e : Int} {L : List Wt} (h : R8 w b X m e L) (x : Wt) (hp : waitE m e L x ≠ 0) :
    Calls Try.prog 9 #[.pointer (some ⟨b, 0, none⟩), aggW x] w fun r w' => r = .returned (.int .i64 (waitE m e L x)) ∧ Turned [] w w' := by
  obtain ⟨x1, x2, x3⟩ := x
  have HH := Lib.hid (fun (o : Obj) => rat_any (w := w.alloc o) (h.keep ((Turned.refl [] w).alloc o) (by simp)) x1)
  have HC := Lib.hid (fun (o : Obj) (n : Nat) => rcount_any (w := (w.alloc o).drewN n) (h.keep (((Turned.refl [] w).alloc o).drewN n) (by simp)) x2)
  have ht := Lib.hid (fun o n => ((Turned.refl [] w).alloc o).drewN n)
  have hb := h.lt b h.head
  have hb' : b ≠ w.heap.size := by omega
  obtain ⟨a, cap, c0, c1, c2, hr⟩ := h.rows
  clear h hr
  by_cases h0 : 0 ≤ whoI L x1
  · rw [show waitE m e L (x1, x2, x3) = 12 by simp [waitE, h0]]
    obtain ⟨q, hq⟩ : ∃ q, whoI L x1 = q := ⟨_, rfl⟩
    rw [hq] at HH h0
    clear hp hq
    go_enter Try.func9, Try.ntmps9
    go_wp2_with fail
    with_reducible refine (HH.out _).mono ?_
    rintro e w1 ⟨rfl, rfl⟩
    go_wp2
    go_ret
    exact ⟨rfl, ht.out _ 0⟩
  · have hm : m ≤ L.length ∨ e ≤ cntK L x2 := by
      simp only [waitE, if_neg h0] at hp
      by_cases hm : m ≤ L.length ∨ e ≤ cntK L x2
      · exact hm
      · rw [if_neg hm] at hp
        exact absurd rfl hp
    rw [show waitE m e L (x1, x2, x3) = 3 by simp [waitE, h0, hm]]
    obtain ⟨q, hq⟩ : ∃ q, whoI L x1 = q := ⟨_, rfl⟩
    obtain ⟨c, hc⟩ : ∃ c, cntK L x2 = c := ⟨_, rfl⟩
    rw [hq] at HH h0
    rw [hc] at HC hm
    have h0' : q < 0 := by omega
    have h0'' : decide (0 ≤ q) = false := by simpa using h0
    clear hp hq h0 hc
    by_cases hm1 : m ≤ L.length
    · have z1 : decide (m ≤ (L.length : Int)) = true := by simpa using hm1
      clear hm
      go_enter Try.func9, Try.ntmps9
      go_wp2_with fail
      with_reducible refine (HH.out _).mono ?_
      rintro e w1 ⟨rfl, rfl⟩
      go_wp2_with fail
      go_quiet (fail)
      go_wp2
      go_ret
      exact ⟨rfl, ht.out _ _⟩
    · have z1 : decide (m ≤ (L.length : Int)) = false := by simpa using hm1
      have hm2 : e ≤ (c : Int) := by rcases hm with h | h; exact absurd h hm1; exact h
      have z2 : decide (e ≤ (c : Int)) = true := by simpa using hm2
      clear hm
      go_enter Try.func9, Try.ntmps9
      go_wp2_with fail
      with_reducible refine (HH.out _).mono ?_
      rintro e w1 ⟨rfl, rfl⟩
      go_wp2_with fail
      go_quiet ((go_at_call 29; exact Calls.quiet_of_same (HC.out _ _)))
      go_wp2
      go_ret
      exact ⟨rfl, ht.out _ _⟩

set_option maxRecDepth 100000 in
set_option maxHeartbeats 800000 in
theorem rwait_yes {w : World} {b : Nat} {X : List Nat} {m e : Int} {L : List Wt} (h : R8 w b X m e L) (x : Wt) (h0 : whoI L x.1 < 0) (hm : (L.length : Int) < m) (he : (cntK L x.2.1 : Int) < e) (hL : L.length ≤ 1000000) :
    Calls Try.prog 9 #[.pointer (some ⟨b, 0, none⟩), aggW x] w fun r w' => r = .returned (.int .i64 0) ∧
      ∃ X', R8 w' b X' m e (L ++ [x]) ∧ Turned X w w' ∧ Newer X w.heap.size X' := by
  obtain ⟨x1, x2, x3⟩ := x
  simp only at h0 he
  have HH := Lib.hid (fun (o : Obj) => rat_any (w := w.alloc o) (h.keep ((Turned.refl [] w).alloc o) (by simp)) x1)
  have HC := Lib.hid (fun (o : Obj) (n : Nat) => rcount_any (w := (w.alloc o).drewN n) (h.keep (((Turned.refl [] w).alloc o).drewN n) (by simp)) x2)
  have hb := h.lt b h.head
  have hb' : b ≠ w.heap.size := by omega
  obtain ⟨v, h1, h2, h3⟩ := h
  obtain ⟨a, cap, hv, hc1, hc2⟩ := ownsRow_shape h2
  obtain ⟨c0, c1, c2, hfr⟩ := cellsT h1
  have f1 := hfr 2
  have H1 := Lib.hid h1
  have H2 := Lib.hid h2
  have H3 := Lib.hid h3
  have HV := Lib.hid hv
  rw [hv] at c2
  obtain ⟨q, hq⟩ : ∃ q, whoI L x1 = q := ⟨_, rfl⟩
  obtain ⟨c, hc⟩ : ∃ c, cntK L x2 = c := ⟨_, rfl⟩
  rw [hq] at HH h0
  rw [hc] at HC he
  have z0 : decide (0 ≤ q) = false := by simp; omega
  have z1 : decide (m ≤ (L.length : Int)) = false := by simp; omega
  have z2 : decide (e ≤ (c : Int)) = false := by simp; omega
  obtain ⟨ii, hi, hz0, hz1, hz2⟩ := info_parts infoW
  clear hq hc h1 h2 h3 hv hfr
  go_enter Try.func9, Try.ntmps9
  go_wp2_with fail
  with_reducible refine (HH.out _).mono ?_
  rintro e w1 ⟨rfl, rfl⟩
  go_wp2_with fail
  go_quiet ((go_at_call 29; exact Calls.quiet_of_same (HC.out _ _)))
  go_wp2_with (fail)
  obtain ⟨W, hW⟩ : ∃ W, (w.alloc (.cells #[.int .i64 x1, .int .i64 x2, .int .u64 x3] tW)).drewN nq = W := ⟨_, rfl⟩
  have T0 : Turned [] w W := hW ▸ (((Turned.refl [] w).alloc _).drewN nq)
  have S0 : W.heap.size = w.heap.size + 1 := by rw [← hW]; simp
  have n0 : w.heap.size < W.heap.size := by omega
  have n1 : b < W.heap.size := by omega
  have HS0 := Lib.hid S0
  clear S0
  have K0 : W.heap[w.heap.size]? = some (.cells #[.int .i64 x1, .int .i64 x2, .int .u64 x3] tW (0, 0)) := by rw [← hW]; exact heap_alloc_new w _
  obtain ⟨k0, k1, k2, _⟩ := cellsT K0
  have H1 := Lib.hid (T0.same H1.out (by simp))
  have H2 := Lib.hid (ownsRow_same H2.out fun k _ hl => T0.block k hl (by simp))
  have T0 := Lib.hid T0
  have e1 : W.cell? ⟨b, 2, none⟩ = some (.slice a L.length cap) := by rw [← HV.out]; exact (cellsT H1.out).2.2.1
  have g1 : W.frozen? ⟨b, 2, none⟩ = false := (cellsT H1.out).2.2.2 2
  rw [hW]
  clear c0 c1 c2 f1 hW K0
  go_region_law (refine step_append_any _ rfl _ _ 46 rfl tW ii (.agg #[.int .i64 0, .int .i64 0, .int .u64 0]) 3 24 Try.underlying46 hi hz0 hz1 hz2 rfl (by decide) _ L.length (cellsOf encW L) rfl (by rw [← HV.out]; exact H2.out.alloc _) (some ⟨W.heap.size, 0, none⟩) 1 1 [.int .i64 x1, .int .i64 x2, .int .u64 x3] rfl rfl (by simp) (by intro ad had; cases had; exact three_new_at _ W.heap.size rfl _ _ _ _) (by intro u hu; simp at hu; rcases hu with rfl | rfl | rfl <;> rfl) (by unfold maxLen; omega) (by omega) ?_; intro a' cap' W1 hown hgrow hnew; have R := LAt.appended (enc := encW) (cs := csT m e) (i := 2) (v' := .slice a' (L.length + 1) cap') (M := L ++ [(x1, x2, x3)]) (by decide) rfl H1.out H2.out (((Turned.refl [] W).alloc _).drew) (by rw [HV.out]; exact hgrow) (by rw [cellsOf_snoc, List.length_append]; exact hown) (by rw [HV.out]; exact hnew); have d1 := (cellsT R.1).2.2.1; have d2 := (cellsT R.1).2.2.2 2; have RR := Lib.hid R.2; clear hown hgrow hnew R)
  all_goals
    go_wp2
    go_ret
    obtain ⟨r1, r2, r3⟩ := RR.out
    have hX := H3.out
    subst hX
    exact ⟨rfl, _, r1, (T0.out.mono (fun k hk => by simp at hk)).trans r2 (Newer.refl _ _), r3.mono (by omega)⟩

theorem rwait_any {w : World} {b : Nat} {X : List Nat} {m e : Int} {L : List Wt} (h : R8 w b X m e L) (x : Wt) (hL : L.length ≤ 1000000) :
    Calls Try.prog 9 #[.pointer (some ⟨b, 0, none⟩), aggW x] w fun r w' => r = .returned (.int .i64 (waitE m e L x)) ∧
      ∃ X', R8 w' b X' m e (waitL m e L x) ∧ Turned X w w' ∧ Newer X w.heap.size X' := by
  by_cases hp : waitE m e L x = 0
  · have h0 : whoI L x.1 < 0 := by
      simp only [waitE] at hp
      by_cases h0 : 0 ≤ whoI L x.1
      · rw [if_pos h0] at hp; omega
      · omega
    have hm : ¬ (m ≤ L.length ∨ e ≤ cntK L x.2.1) := by
      intro hm
      simp only [waitE, if_neg (show ¬ 0 ≤ whoI L x.1 by omega), if_pos hm] at hp
      omega
    simp only [waitL, hp, if_true]
    exact rwait_yes h x h0 (by omega) (by omega) hL
  · simp only [waitL, if_neg hp]
    exact (rwait_no h x hp).mono fun r w' ⟨he, ht⟩ => ⟨he, X, h.keep ht (by simp), ht.mono (fun k hk => by simp at hk), Newer.refl _ _⟩

theorem wait_cells {w : World} {B : Nat} {x y z : Value} {t : TypeId} (h : w.heap[B]? = some (.cells #[x, y, z] t (0, 0))) :
    w.cell? ⟨B, 0, none⟩ = some x ∧ w.cell? ⟨B, 1, none⟩ = some y ∧ w.cell? ⟨B, 2, none⟩ = some z := by
  refine ⟨by simp [World.cell?, h], by simp [World.cell?, h], by simp [World.cell?, h]⟩
theorem wait_stored {w : World} {B : Nat} {x y z x' y' z' : Value} {t : TypeId} (h : w.heap[B]? = some (.cells #[x, y, z] t (0, 0))) :
    (((w.setCell ⟨B, 0, none⟩ x').setCell ⟨B, 1, none⟩ y').setCell ⟨B, 2, none⟩ z').heap[B]? = some (.cells #[x', y', z'] t (0, 0)) := by
  rw [heap_setCell_same _ _ _ _ _ _ (heap_setCell_same _ _ _ _ _ _ (heap_setCell_same _ _ _ _ _ _ h))]
  rfl
theorem wait_result {fn : Func} {p : Tmp} (hf : fn.results = #[.cell p tW]) {tmps : Array Value} {w : World} {B : Nat} {x y z : Value} (hp : tmps.getD p undef = .pointer (some ⟨B, 0, none⟩)) (h : w.heap[B]? = some (.cells #[x, y, z] tW (0, 0))) :
    (results fn tmps).run Try.prog w = .ok (.agg #[x, y, z]) w := by
  obtain ⟨h0, h1, h2⟩ := wait_cells h
  have hp' : tmps[p]?.getD undef = .pointer (some ⟨B, 0, none⟩) := by simpa using hp
  simp [results, hf, hp', loadVar, go_sem, h0, h1, h2, asAddr, Sem.run_bind, Result.andThen]
set_option maxRecDepth 100000 in
set_option maxHeartbeats 1600000 in
theorem rtake8_at {w : World} {b : Nat} {X : List Nat} {m e : Int} {L : List Wt} (h : R8 w b X m e L) (j : Nat) (hj : j < L.length) (hL : L.length ≤ 1000000) :
    Calls Try.prog 15 #[.pointer (some ⟨b, 0, none⟩), .int .i64 (j : Int)] w fun r w' => r = .returned (aggW (L.getD j (0, 0, 0))) ∧
      ∃ X', R8 w' b X' m e (L.eraseIdx j) ∧ Turned X w w' ∧ Newer X w.heap.size X' := by
  have hb := h.lt b h.head
  obtain ⟨a, cap, h1, h2, h3, hc1, hc2, hg⟩ := h.view
  obtain ⟨g, hg | hg⟩ := hg j hj
  case inr => exact absurd hg (by decide)
  obtain ⟨rfl, hbg⟩ := hg
  have hgl : g < w.heap.size := ownsRow_lt h2 g (by simp [Value.ownBlock])
  have r := row_cells encW_len h2 hj
  have hd : L.getD j (0, 0, 0) = L[j] := by simp [List.getD, hj]
  have r0 := (r 0 (by omega)).1
  have r1 := (r 1 (by omega)).1
  have r2 := (r 2 (by omega)).1
  rw [hd]
  generalize L[j] = x at r0 r1 r2
  obtain ⟨x1, x2, x3⟩ := x
  simp only [encW, List.getElem?_cons_zero, List.getElem?_cons_succ, Nat.add_zero] at r0 r1 r2 ⊢
  have c2 := (cellsT h1).2.2.1
  have j0 : (0 : Int) ≤ j := by omega
  have j1 : (j : Int) < L.length := by omega
  have H1 := Lib.hid h1
  have H2 := Lib.hid h2
  have H3 := Lib.hid h3
  obtain ⟨ii, hi, hz0, hz1, hz2⟩ := info_parts infoW
  have hw1 : IntKind.i64.wrap ((j : Int) + 1) = (j : Int) + 1 := by rw [IntKind.wrap_i64]; omega
  have n7 : (0 : Int) ≤ (j : Int) + 1 := by omega
  clear h h1 h2 h3 r hd hg
  go_enter Try.func15, Try.ntmps15
  go_wp2
  obtain ⟨W, hW⟩ : ∃ W, (w.alloc (.cells #[.int .i64 0, .int .i64 0, .int .u64 0] tW)).alloc (.cells #[.int .i64 x1, .int .i64 x2, .int .u64 x3] tW) = W := ⟨_, rfl⟩
  have T0 : Turned [] w W := hW ▸ ((Turned.refl [] w).alloc _).alloc _
  have S0 : W.heap.size = w.heap.size + 2 := by rw [← hW]; simp
  have K0 : W.heap[w.heap.size]? = some (.cells #[.int .i64 0, .int .i64 0, .int .u64 0] tW (0, 0)) := by rw [← hW]; exact (Below.heap_alloc _ _ _ (by simp)).trans (heap_alloc_new w _)
  have K1 : W.heap[w.heap.size + 1]? = some (.cells #[.int .i64 x1, .int .i64 x2, .int .u64 x3] tW (0, 0)) := by rw [← hW]; exact (by simpa using heap_alloc_new (w.alloc (.cells #[.int .i64 0, .int .i64 0, .int .u64 0] tW)) (.cells #[.int .i64 x1, .int .i64 x2, .int .u64 x3] tW))
  have n0 : b < W.heap.size := by omega
  have n1 : g < W.heap.size := by omega
  have n2 : j ≤ cap := by omega
  have n3 : (j : Int) + 1 ≤ L.length := by omega
  have n4 : j + 1 ≤ L.length := by omega
  have n5 : j + 1 ≤ cap := by omega
  have n6 : L.length ≤ cap := hc1
  have H1 := Lib.hid (T0.same H1.out (by simp))
  have H2 := Lib.hid (ownsRow_same H2.out fun k _ hl => T0.block k hl (by simp))
  have T0 := Lib.hid T0
  have HS0 := Lib.hid S0
  have HK0 := Lib.hid K0
  have HK1 := Lib.hid K1
  have e1 : W.cell? ⟨b, 2, none⟩ = some (.slice (some ⟨g, 0, none⟩) L.length cap) := (cellsT H1.out).2.2.1
  have g1 : W.frozen? ⟨b, 2, none⟩ = false := (cellsT H1.out).2.2.2 2
  rw [hW]
  clear c2 hW K0 K1 S0 r0 r1 r2
  go_region_law (first
    | (refine step_append_any _ rfl (.tmp 14) (.tmp 20) 46 rfl tW ii (.agg #[.int .i64 0, .int .i64 0, .int .u64 0]) 3 24 Try.underlying46 hi hz0 hz1 hz2 rfl (by decide) (.slice (some ⟨W.heap.size, 0, none⟩) 0 0) 0 [] rfl (ownsRow_empty W tW 3) (some ⟨g, 0, none⟩) j cap (cellsOf encW (L.take j)) rfl (by rw [cellsOf_len encW_len, List.length_take, Nat.min_eq_left (by omega)]) (by intro h; cases h) (by intro ad had; cases had; exact cells_take encW_len H2.out (((Turned.refl [] W).alloc _).drew) j) (cells_one encW_one _) (by unfold maxLen; omega) (by omega) ?_
       intro a1 cap1 W1 hown1 hgrow1 hnew1
       rw [Nat.zero_add, List.nil_append] at hown1
       rw [Nat.zero_add] at hnew1
       have t1 : Turned [] W W1 := Turned.grown (((Turned.refl [] W).alloc _).drew) hgrow1 (fun k hk => .inr (by simp [Value.ownBlock] at hk; omega))
       have e1' : W1.cell? ⟨b, 2, none⟩ = some (.slice (some ⟨g, 0, none⟩) L.length cap) := (cellsT (t1.same H1.out (by simp))).2.2.1
       have HO1 := Lib.hid hown1
       have hn1 : ∀ q ∈ (Value.slice a1 j cap1).ownBlock.toList, W.heap.size ≤ q := fun q hq => by
         rcases hnew1 q hq with h | h
         · simp [Value.ownBlock] at h
           omega
         · have h' : W.heap.size + 1 ≤ q := by simpa using h
           omega
       have HN1 := Lib.hid hn1
       have HT1 := Lib.hid t1
       clear hown1 hgrow1 hnew1 t1 hn1)
    | (refine step_append_any _ rfl (.tmp 21) (.tmp 28) 46 rfl tW ii (.agg #[.int .i64 0, .int .i64 0, .int .u64 0]) 3 24 Try.underlying46 hi hz0 hz1 hz2 rfl (by decide) _ _ _ rfl HO1.out (if cap = j + 1 then some ⟨g, 0, none⟩ else some ⟨g, (j + 1) * 3, none⟩) (L.length - (j + 1)) (cap - (j + 1)) (cellsOf encW (L.drop (j + 1))) rfl (by rw [cellsOf_len encW_len, List.length_drop]) (by intro h; split at h <;> cases h) (cells_tail encW_len H2.out HT1.out (j + 1) n6) (cells_one encW_one _) (by unfold maxLen; omega) (by omega) ?_
       intro a2 cap2 W2 hown2 hgrow2 hnew2
       have t2 : Turned [] W W2 := Turned.grown HT1.out hgrow2 (fun k hk => .inr (HN1.out k (by rw [Option.mem_toList]; exact hk)))
       have hn2 : ∀ q ∈ (Value.slice a2 (j + (L.length - (j + 1))) cap2).ownBlock.toList, W.heap.size ≤ q := fun q hq => by
         rcases hnew2 q hq with h | h
         · exact HN1.out q h
         · have := HT1.out.size
           omega
       have e2' : W2.cell? ⟨b, 2, none⟩ = some (.slice (some ⟨g, 0, none⟩) L.length cap) := (cellsT (t2.same H1.out (by simp))).2.2.1
       have e3' : W2.frozen? ⟨b, 2, none⟩ = false := (cellsT (t2.same H1.out (by simp))).2.2.2 2
       have HO2 := Lib.hid hown2
       have HN2 := Lib.hid hn2
       have HT2 := Lib.hid t2
       clear hown2 hgrow2 hnew2 t2 hn2))
  all_goals
    have hM : cellsOf encW (L.take j) ++ cellsOf encW (L.drop (j + 1)) = cellsOf encW (L.eraseIdx j) := by rw [← cellsOf_append, take_drop_erase]
    have hl : j + (L.length - (j + 1)) = (L.eraseIdx j).length := by rw [List.length_eraseIdx, if_pos hj]; omega
    have R := LAt.stored (w := W) (tS := tT8) (tE := tW) (k := 3) (enc := encW) (cs := csT m e) (i := 2) (v' := .slice a2 (j + (L.length - (j + 1))) cap2) (M := L.eraseIdx j) (by decide) rfl (HT2.out.same H1.out (by simp)) (by rw [← hl, ← hM]; exact HO2.out) (X := X) (by rw [H3.out]; simp) (HT2.out.mono (fun k hk => by simp at hk)) (fun q hq => .inr (HN2.out q hq))
    have k0 := (Below.heap_setCell W2 ⟨b, 2, none⟩ (.slice a2 (j + (L.length - (j + 1))) cap2) w.heap.size (by simp; omega)).trans (HT2.out.same HK0.out (by simp))
    have k1 := (Below.heap_setCell W2 ⟨b, 2, none⟩ (.slice a2 (j + (L.length - (j + 1))) cap2) (w.heap.size + 1) (by simp; omega)).trans (HT2.out.same HK1.out (by simp))
    obtain ⟨p0, p1, p2⟩ := wait_cells k1
    obtain ⟨s0, s1, s2⟩ := wait_cells k0
    have f0 := fun i => frozen_of_row _ w.heap.size i _ _ k0
    have f00 := f0 0
    have f01 := f0 1
    have f02 := f0 2
    have KK := Lib.hid (wait_stored (x' := .int .i64 x1) (y' := .int .i64 x2) (z' := .int .u64 x3) k0)
    have RR := Lib.hid R
    generalize W2.setCell ⟨b, 2, none⟩ (.slice a2 (j + (L.length - (j + 1))) cap2) = V at p0 p1 p2 s0 s1 s2 f00 f01 f02 KK RR ⊢
    clear hM hl R k0 k1 f0
    go_wp2
    all_goals
      (try simp only [Exit.inBlock, Exit.then])
      refine bodyPost_ret (wait_result rfl rfl KK.out) rfl ?_
      obtain ⟨q1, q2, q3⟩ := RR.out
      have ht : Turned [w.heap.size] V (((V.setCell ⟨w.heap.size, 0, none⟩ (.int .i64 x1)).setCell ⟨w.heap.size, 1, none⟩ (.int .i64 x2)).setCell ⟨w.heap.size, 2, none⟩ (.int .u64 x3)) := (((Turned.refl _ V).setCell (.inl (by simp)) _).setCell (.inl (by simp)) _).setCell (.inl (by simp)) _
      have hs := HS0.out
      refine ⟨rfl, _, q1.keep ht (fun k hk hw => ?_), ?_, q3.mono (by omega)⟩
      · simp at hw
        subst hw
        rcases List.mem_cons.1 hk with e | hk
        · omega
        · have := HN2.out _ hk
          omega
      · exact ((T0.out.mono (fun k hk => by simp at hk)).trans q2 (Newer.refl _ _)).trans ht (fun k hk => .inr (by simp at hk; omega))
end Go.Proofs.Ytiffgkmmibhklaa
