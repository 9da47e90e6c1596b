/-
  WaitqOnce: the arguments opened to their cells; the row, given what is said of the program.
-/
import Derived.Test.YtiffgkmmibhklaaArRow
import Derived.Test.YtiffgkmmibhklaaWqOn1
namespace Go.Proofs.Ytiffgkmmibhklaa
open Go.ChangeShapes Go.WideShapes Go.ChangeAt Go.RowKit Go.Deep

theorem wf_i64 {x : Int} (h : (Lit.int .i64 x).wf = true) : isI x := by
  simp [Lit.wf, IntKind.min, IntKind.max, IntKind.signed, IntKind.bits] at h
  exact ⟨by omega, by omega⟩
theorem wf_u64 {x : Int} (h : (Lit.int .u64 x).wf = true) : 0 ≤ x ∧ x < 18446744073709551616 := by
  simp [Lit.wf, IntKind.min, IntKind.max, IntKind.signed, IntKind.bits] at h
  exact ⟨by omega, by omega⟩
section
variable {H : Type} {enc : TypeId × Value → H} {P : Program}
variable {w : World} {base : Nat} {spare : Nat → Bool} {held : Bool}
/-- A slice of structs of three whole numbers: its cells. -/
theorem open_recs3 {t e : TypeId} {f0 f1 f2 : Field} {i0 i1 i2 : IntKind} (ht : P.underlying t = some (.slice e)) (he : P.underlying e = some (.struct #[f0, f1, f2])) (hone : oneCellFields P #[f0, f1, f2] = true) (hC : P.cellsOf e = 3)
    (k0 : P.underlying f0.type = some (.int i0)) (k1 : P.underlying f1.type = some (.int i1)) (k2 : P.underlying f2.type = some (.int i2)) {v : Value} {d : DataW H} {p : List MemPlace} {r : Reach} {b0 : Nat} (hok : Value.okWide P w r b0 t v) (h : DataW.Trod enc P w base spare held t v d p) :
    ∃ (ao : Option Addr) (b off n cap : Nat) (D : Nat → Int × Int × Int), v = .slice ao n cap ∧ n ≤ maxLen ∧ (0 < n → ao = some ⟨b, off, none⟩ ∧ b < w.heap.size) ∧
      (∀ i, i < n → w.cell? ⟨b, off + i * 3, none⟩ = some (.int i0 (D i).1) ∧ w.cell? ⟨b, off + i * 3 + 1, none⟩ = some (.int i1 (D i).2.1) ∧ w.cell? ⟨b, off + i * 3 + 2, none⟩ = some (.int i2 (D i).2.2)) ∧
      ∀ i, i < n → (Lit.int i0 (D i).1).wf = true ∧ (Lit.int i1 (D i).2.1).wf = true ∧ (Lit.int i2 (D i).2.2).wf = true := by
  obtain ⟨fuel, hf⟩ := h
  obtain ⟨a', len', cap', rfl⟩ := okWide_slice ht hok
  rcases open_slice ht hf with ⟨hcs, _⟩ | ⟨a, len, cap, m, n, D, Pl, hcs, hb, hl, hm, hmm, hx, hi⟩
  · have hv : Value.slice a' len' cap' = .slice none 0 0 := by simpa [Value.cells] using hcs
    exact ⟨none, 0, 0, 0, 0, fun _ => (0, 0, 0), hv, Nat.zero_le _, fun h => by omega, fun i h => by omega, fun i h => by omega⟩
  · have hv : Value.slice a' len' cap' = .slice (some a) len cap := by simpa [Value.cells] using hcs
    have hlm : len ≤ m := by rw [hmm]; split <;> omega
    have each : ∀ i, ∃ x : Int × Int × Int, i < len → (w.cell? (a.add (i * 3)) = some (.int i0 x.1) ∧ w.cell? ((a.add (i * 3)).add 1) = some (.int i1 x.2.1) ∧ w.cell? ((a.add (i * 3)).add 2) = some (.int i2 x.2.2)) ∧
        (Lit.int i0 x.1).wf = true ∧ (Lit.int i1 x.2.1).wf = true ∧ (Lit.int i2 x.2.2).wf = true := by
      intro i
      by_cases hil : i < len
      · obtain ⟨cs', hc, ht'⟩ := hi i (by omega)
        rw [hC] at hc
        obtain ⟨ys, n', hn', hy, hlen, hyl, hg⟩ := DataW.trod_struct he ht'
        obtain ⟨_, hcl, hat⟩ := World.cells?_some hc
        have field : ∀ (j : Nat) (f : Field) (k : IntKind), j < 3 → (#[f0, f1, f2] : Array Field)[j]? = some f → P.underlying f.type = some (.int k) → ∃ x : Int, cs'[j]? = some (.int k x) ∧ (Lit.int k x).wf = true := by
          intro j f k hj hfj hk
          obtain ⟨ho, hone1⟩ := hone_of hone j f hfj
          have h1 := hg j f hfj
          rw [ho, hone1] at h1
          have hcj : j < cs'.length := by omega
          have hcut : (cs'.drop j).take 1 = [cs'[j]] := by
            rw [List.drop_eq_getElem_cons hcj]
            rfl
          have hjl : j < ys.length := by rw [hyl]; exact hj
          rw [hcut, List.getElem?_eq_getElem hjl] at h1
          obtain ⟨x, hx1, _, hx3⟩ := DataW.trod_int hk h1
          simp only [List.cons.injEq, and_true] at hx1
          exact ⟨x, by rw [List.getElem?_eq_getElem hcj, hx1], hx3⟩
        obtain ⟨x0, e0, y0⟩ := field 0 f0 i0 (by omega) rfl k0
        obtain ⟨x1, e1, y1⟩ := field 1 f1 i1 (by omega) rfl k1
        obtain ⟨x2, e2, y2⟩ := field 2 f2 i2 (by omega) rfl k2
        refine ⟨(x0, x1, x2), fun _ => ⟨⟨?_, ?_, ?_⟩, y0, y1, y2⟩⟩
        · have h0 := hat 0 (by omega)
          rw [e0] at h0
          have : a.add (i * 3) = (a.add (i * 3)).add 0 := by
            unfold Addr.add
            simp
          rw [this]
          exact h0
        · rw [hat 1 (by omega), e1]
        · rw [hat 2 (by omega), e2]
      · exact ⟨(0, 0, 0), fun h => absurd h hil⟩
    obtain ⟨G, hG⟩ := Classical.axiomOfChoice each
    by_cases h0 : 0 < len
    · obtain ⟨⟨c0, _⟩, _⟩ := hG 0 h0
      have ha0 : a.add (0 * 3) = a := by
        unfold Addr.add
        simp
      rw [ha0] at c0
      obtain ⟨b, off, rfl, hbl⟩ := spot_none c0
      refine ⟨_, b, off, len, cap, G, hv, by omega, fun _ => ⟨rfl, hbl⟩, fun i hil => ?_, fun i hil => (hG i hil).2⟩
      obtain ⟨⟨g0, g1, g2⟩, _⟩ := hG i hil
      simp only [Addr.add_lit] at g0 g1 g2
      exact ⟨g0, g1, g2⟩
    · exact ⟨some a, 0, 0, len, cap, G, hv, by omega, fun h => absurd h h0, fun i hil => by omega, fun i hil => by omega⟩
end

set_option maxRecDepth 100000 in
set_option maxHeartbeats 1000000 in
theorem once_long (S : WqSaid) (ao : Option Addr) (n cap : Nat) (key m0 : Int) (w : World) (hn : 60 < n) (hm : n ≤ maxLen) :
    Calls Try.prog 4 #[.slice ao n cap, .int .i64 key, .int .i64 m0] w fun r w' => r = .returned (.bool true) ∧ Turned [] w w' := by
  unfold maxLen at hm
  have hn' : (60 : Int) < n := by omega
  refine callsIn_wide.1 (?_ : CallsIn Fence.wide 20 _ _ _ _ _)
  refine callsIn_of_wp_marks Try.func4 rfl trivial ?_ rfl
  simp only [Try.ntmps4, List.size_toArray, List.length_cons, List.length_nil, Nat.reduceAdd, Nat.reduceSub, Array.replicate_succ, Array.replicate_zero, List.push_toArray, List.append_toArray, List.nil_append, List.cons_append]
  refine wpIn_wide.2 ?_
  obtain ⟨Wb, hWb⟩ : ∃ Wb, (w.alloc (.cells #[.int .i64 key] 3)).alloc (.cells #[.bool false] 4) = Wb := ⟨_, rfl⟩
  have tb : Turned [] w Wb := hWb ▸ ((Turned.refl [] w).alloc _).alloc _
  have rb : Wb.heap[w.heap.size + 1]? = some (.cells #[.bool false] 4 (0, 0)) := by
    rw [← hWb]
    have := heap_alloc_new (w.alloc (.cells #[.int .i64 key] 3)) (.cells #[.bool false] 4)
    simp only [World.size_alloc] at this
    exact this
  have AW := Lib.hid (awake8 S Wb)
  have HWb := Lib.hid hWb
  have RB := Lib.hid rb
  have TB := Lib.hid tb
  clear tb rb hWb
  go_wp2_with fail
  rw [HWb.out]
  refine AW.out.mono ?_
  rintro e w0 ⟨rfl, t0⟩
  have TA := Lib.hid (TB.out.trans t0 (Newer.refl _ _))
  have ra := t0.same RB.out (by simp)
  have RA := Lib.hid ra
  have r0 := cell1 ra
  have rf := frozen_of_row _ _ 0 _ _ ra
  clear t0 AW RB TB HWb ra
  go_wp2
  have hr : (w0.setCell ⟨w.heap.size + 1, 0, none⟩ (.bool true)).heap[w.heap.size + 1]? = some (.cells #[.bool true] 4 (0, 0)) := by
    rw [heap_setCell_same _ _ _ _ _ _ RA.out]
    rfl
  exact ⟨_, bool_result rfl rfl hr, rfl, TA.out.setCell (.inr (by simp)) _⟩

set_option maxRecDepth 100000 in
theorem once_lifted (S : WqSaid) (N : WqNil) (os : Os) (started : os.Started) (H : Type) (enc : TypeId × Value → H) :
    ReturnsInHanded {} Try.checked os 4 .any (Rows.waitqOnceSpec.pre6 enc Try.prog Try.f4 Rows.waitqOnceRow.domain false) (Rows.waitqOnceSpec.post enc Try.prog Try.f4 false true false false) := by
  refine returnsInHanded_of_change (C := Try.checked) own started (by kernel_rfl) Try.func4
    (ChangeSpec.witness6 (enc := enc) (C := Try.checked) false ⟨#[], #[.slice none 0 0, .int .i64 0, .int .i64 0], []⟩ 8 (by kernel_rfl) (by kernel_rfl) (by kernel_rfl) (by kernel_rfl)) ?_
  intro W base args ds gs before hval0 hW hcnd _
  have hval : ∀ (j : Nat) t v, Try.f4.params[j]? = some t → args[j]? = some v → Value.okWide Try.prog W .any base t v := hval0
  have hW' := hW
  obtain ⟨p, q, hA0, hV, rfl, hfz, hnd⟩ := hW
  have hA : DataW.TrodAll enc Try.prog W 0 (fun _ => true) true Try.f4.params.toList args.toList ds p := hA0
  rw [Try.params4] at hA hval
  obtain ⟨v0, v1, v2, d0, d1, d2, p0, p1, p2, rfl, rfl, rfl, h0, h1, h2⟩ := trodAll_three hA
  obtain ⟨rfl, rfl⟩ := trodVars_none hV
  have h0k := h0
  obtain ⟨a1, rfl, rfl, rfl, w1⟩ := open_int Try.underlying3 (hval 1 3 v1 rfl rfl) h1
  obtain ⟨a2, rfl, rfl, rfl, w2⟩ := open_int Try.underlying3 (hval 2 3 v2 rfl rfl) h2
  obtain ⟨ao, b, off, n, cap, E, rfl, hm, hao, hE, hWf⟩ := open_recs3 Try.underlying46 Try.underlying32 (by kernel_rfl) (by kernel_rfl) Try.underlying3 Try.underlying3 Try.underlying30 (hval 0 46 v0 rfl rfl) h0
  clear hA0 hval0
  have hlt0 : ∀ x ∈ p0, x.block < W.heap.size := fun x hx => hW'.lt x (by simp [hx])
  have walk : Calls Try.prog 4 #[.slice ao n cap, .int .i64 a1, .int .i64 a2] W fun e w' => e = .returned (.bool true) ∧ Turned [] W w' := by
    by_cases hn : n ≤ 60
    · exact once_walk S N ao b off n cap E a1 a2 W hn (wf_i64 w2) (wf_i64 w1) hao hE (fun i hi => by
        obtain ⟨q0, q1, q2⟩ := hWf i hi
        exact ⟨wf_i64 q0, wf_i64 q1, wf_u64 q2⟩)
    · exact once_long S ao n cap a1 a2 W (by omega) hm
  refine walk.mono fun e W' ⟨he, ht⟩ => ?_
  have hb : Below W.heap.size W W' := ht.below (by simp) (Nat.le_refl _)
  subst he
  exact ⟨_, rfl, post_law (pv := []) hW' hb (fun _ _ _ => trodAll_mk1 (shut_bool Try.underlying4 _))
    (trodAll_mk3 (Below.trod laidOut (by kernel_rfl) (of_decide_eq_true (by kernel_rfl)) h0k hb hlt0) (shut_int Try.underlying3 w1) (shut_int Try.underlying3 w2)) rfl⟩

theorem waitqOnce_of (S : WqSaid) (N : WqNil) : Rows.WaitqOnceSaid :=
  OpenClaim.holds_of_wide 4 Try.f4 rfl rfl rfl rfl rfl rfl rfl ⟨rfl, rfl, rfl, rfl, rfl⟩ rfl rfl rfl rfl rfl (by kernel_rfl) Try.func4 (by kernel_rfl)
    (of_decide_eq_true (by kernel_rfl)) (by unfold Func.isWrapper; first | (rw [if_pos (by decide +kernel)]; kernel_rfl) | (rw [if_neg (by decide +kernel)]; exact ⟨rfl, rfl⟩))
    (fun os started H enc _ => once_lifted S N os started H enc)
end Go.Proofs.Ytiffgkmmibhklaa
