/-
  WaitqRuns: the arguments opened to their cells; the row, given what is said of the program.
-/
import Derived.Test.YtiffgkmmibhklaaArRow
import Derived.Test.YtiffgkmmibhklaaWqRuns
namespace Go.Proofs.Ytiffgkmmibhklaa
open Go.ChangeShapes Go.WideShapes Go.ChangeAt Go.RowKit Go.Deep

section
variable {H : Type} {enc : TypeId × Value → H} {P : Program}
variable {w : World} {base : Nat} {spare : Nat → Bool} {held : Bool}
theorem cut_one {cs : List Value} {j : Nat} {v : Value} (h : (cs.drop j).take 1 = [v]) : cs[j]? = some v := by
  have h1 : ((cs.drop j).take 1)[0]? = some v := by rw [h]; rfl
  rw [List.getElem?_take_of_lt (by omega), List.getElem?_drop] at h1
  simpa using h1
theorem cut_some {cs : List Value} {j i k : Nat} {v : Value} (hi : i < k) (h : (((cs.drop j).take k).drop i).take 1 = [v]) : cs[j + i]? = some v := by
  have h1 := cut_one h
  rw [List.getElem?_take_of_lt hi, List.getElem?_drop] at h1
  exact h1
theorem u8_low {x : Int} (h : (Lit.int .u8 x).wf = true) : 0 ≤ x ∧ x ≤ 255 := by
  simp [Lit.wf, IntKind.min, IntKind.max, IntKind.signed, IntKind.bits] at h
  exact ⟨by omega, by omega⟩
theorem u64_in {x : Int} (h : (Lit.int .u64 x).wf = true) : 0 ≤ x ∧ x < 18446744073709551616 := by
  simp [Lit.wf, IntKind.min, IntKind.max, IntKind.signed, IntKind.bits] at h
  exact ⟨by omega, by omega⟩
theorem isI_of {x : Int} (h : (Lit.int .i64 x).wf = true) : isI x := by
  simp [Lit.wf, IntKind.min, IntKind.max, IntKind.signed, IntKind.bits] at h
  exact ⟨by omega, by omega⟩

/-- A slice of structs of a byte, a struct of two ints and a uint64, and an int: its cells. -/
theorem open_deeds8 {t e : TypeId} {f0 f1 f2 g0 g1 g2 : Field} (ht : P.underlying t = some (.slice e)) (he : P.underlying e = some (.struct #[f0, f1, f2])) (hC : P.cellsOf e = 5)
    (o0 : f0.offset = 0) (o1 : f1.offset = 1) (o2 : f2.offset = 4) (c0 : P.cellsOf f0.type = 1) (c1 : P.cellsOf f1.type = 3) (c2 : P.cellsOf f2.type = 1) (hk : P.underlying f1.type = some (.struct #[g0, g1, g2]))
    (q0 : g0.offset = 0) (q1 : g1.offset = 1) (q2 : g2.offset = 2) (d0 : P.cellsOf g0.type = 1) (d1 : P.cellsOf g1.type = 1) (d2 : P.cellsOf g2.type = 1)
    (k0 : P.underlying f0.type = some (.int .u8)) (k1 : P.underlying g0.type = some (.int .i64)) (k2 : P.underlying g1.type = some (.int .i64)) (k3 : P.underlying g2.type = some (.int .u64)) (k4 : P.underlying f2.type = some (.int .i64))
    {v : Value} {d : DataW H} {p : List MemPlace} {r : Reach} {b0 : Nat} (hok : Value.okWide P w r b0 t v) (h : DataW.Trod enc P w base spare held t v d p) :
    ∃ (ao : Option Addr) (b off n cap : Nat) (E : Nat → Dw), v = .slice ao n cap ∧ n ≤ maxLen ∧ (0 < n → ao = some ⟨b, off, none⟩ ∧ b < w.heap.size) ∧
      (∀ i, i < n → w.cell? ⟨b, off + i * 5, none⟩ = some (.int .u8 (E i).1) ∧ w.cell? ⟨b, off + i * 5 + 1, none⟩ = some (.int .i64 (E i).2.1.1) ∧ w.cell? ⟨b, off + i * 5 + 2, none⟩ = some (.int .i64 (E i).2.1.2.1) ∧ w.cell? ⟨b, off + i * 5 + 3, none⟩ = some (.int .u64 (E i).2.1.2.2) ∧ w.cell? ⟨b, off + i * 5 + 4, none⟩ = some (.int .i64 (E i).2.2)) ∧
      (∀ i, i < n → 0 ≤ (E i).1 ∧ wfW (E i).2.1 ∧ isI (E i).2.2) := by
  obtain ⟨fuel, hf⟩ := h
  obtain ⟨a', len', cap', rfl⟩ := okWide_slice ht hok
  rcases open_slice ht hf with ⟨hcs, _⟩ | ⟨a, len, cap, m, n, D, Pl, hcs, hb, hl, hm, hmm, hx, hi⟩
  · have hv : Value.slice a' len' cap' = .slice none 0 0 := by simpa [Value.cells] using hcs
    exact ⟨none, 0, 0, 0, 0, fun _ => (0, (0, 0, 0), 0), hv, Nat.zero_le _, fun h => by omega, fun i h => by omega, fun i h => by omega⟩
  · have hv : Value.slice a' len' cap' = .slice (some a) len cap := by simpa [Value.cells] using hcs
    have hlm : len ≤ m := by rw [hmm]; split <;> omega
    have each : ∀ i, ∃ x : Dw, i < len → (w.cell? (a.add (i * 5)) = some (.int .u8 x.1) ∧ w.cell? ((a.add (i * 5)).add 1) = some (.int .i64 x.2.1.1) ∧ w.cell? ((a.add (i * 5)).add 2) = some (.int .i64 x.2.1.2.1) ∧ w.cell? ((a.add (i * 5)).add 3) = some (.int .u64 x.2.1.2.2) ∧ w.cell? ((a.add (i * 5)).add 4) = some (.int .i64 x.2.2)) ∧
        (0 ≤ x.1 ∧ wfW x.2.1 ∧ isI x.2.2) := by
      intro i
      by_cases hil : i < len
      · obtain ⟨cs', hc, ht'⟩ := hi i (by omega)
        rw [hC] at hc
        obtain ⟨ys, n', hn', hy, hlen, hyl, hg⟩ := DataW.trod_struct he ht'
        simp only [List.size_toArray, List.length_cons, List.length_nil] at hyl
        obtain ⟨_, hcl, hat⟩ := World.cells?_some hc
        have t0 := hg 0 f0 rfl
        have t1 := hg 1 f1 rfl
        have t2 := hg 2 f2 rfl
        rw [o0, c0, List.getElem?_eq_getElem (by omega)] at t0
        rw [o1, c1, List.getElem?_eq_getElem (by omega)] at t1
        rw [o2, c2, List.getElem?_eq_getElem (by omega)] at t2
        obtain ⟨x0, e0, _, w0⟩ := DataW.trod_int k0 t0
        obtain ⟨x4, e4, _, w4⟩ := DataW.trod_int k4 t2
        obtain ⟨zs, n2, _, _, _, hzl, hz⟩ := DataW.trod_struct hk t1
        simp only [List.size_toArray, List.length_cons, List.length_nil] at hzl
        have s0 := hz 0 g0 rfl
        have s1 := hz 1 g1 rfl
        have s2 := hz 2 g2 rfl
        rw [q0, d0, List.getElem?_eq_getElem (by omega)] at s0
        rw [q1, d1, List.getElem?_eq_getElem (by omega)] at s1
        rw [q2, d2, List.getElem?_eq_getElem (by omega)] at s2
        obtain ⟨x1, e1, _, w1⟩ := DataW.trod_int k1 s0
        obtain ⟨x2, e2, _, w2⟩ := DataW.trod_int k2 s1
        obtain ⟨x3, e3, _, w3⟩ := DataW.trod_int k3 s2
        have e0 := cut_one e0
        have e1 := cut_some (by omega) e1
        have e2 := cut_some (by omega) e2
        have e3 := cut_some (by omega) e3
        have e4 := cut_one e4
        refine ⟨(x0, (x1, x2, x3), x4), fun _ => ⟨⟨?_, ?_, ?_, ?_, ?_⟩, (u8_low w0).1, ⟨isI_of w1, isI_of w2, u64_in w3⟩, isI_of w4⟩⟩
        · have h0 := hat 0 (by omega)
          rw [e0] at h0
          have : a.add (i * 5) = (a.add (i * 5)).add 0 := by
            unfold Addr.add
            simp
          rw [this]
          exact h0
        · rw [hat 1 (by omega), e1]
        · rw [hat 2 (by omega), e2]
        · rw [hat 3 (by omega), e3]
        · rw [hat 4 (by omega), e4]
      · exact ⟨(0, (0, 0, 0), 0), fun h => absurd h hil⟩
    obtain ⟨G, hG⟩ := Classical.axiomOfChoice each
    by_cases h0 : 0 < len
    · obtain ⟨⟨c0, _⟩, _⟩ := hG 0 h0
      have ha0 : a.add (0 * 5) = a := by
        unfold Addr.add
        simp
      rw [ha0] at c0
      obtain ⟨b, off, rfl, hbl⟩ := spot_none c0
      refine ⟨_, b, off, len, cap, G, hv, by omega, fun _ => ⟨rfl, hbl⟩, fun i hil => ?_, fun i hil => (hG i hil).2⟩
      obtain ⟨⟨g0, g1, g2, g3, g4⟩, _⟩ := hG i hil
      simp only [Addr.add_lit] at g0 g1 g2 g3 g4
      exact ⟨g0, g1, g2, g3, g4⟩
    · exact ⟨some a, 0, 0, len, cap, G, hv, by omega, fun h => absurd h h0, fun i hil => by omega, fun i hil => by omega⟩
/-- An array of three integers, handed over by value. -/
theorem open_three {r : Reach} {b0 : Nat} {t e : TypeId} {v : Value} {d : DataW H} {p : List MemPlace} (ht : P.underlying t = some (.array 3 e)) (he : P.underlying e = some (.int .i64)) (hC : P.cellsOf t = 3) (hE : P.cellsOf e = 1)
    (hv : Value.okWide P w r b0 t v) (h : DataW.Trod enc P w base spare held t v d p) : ∃ x y z : Int, v = .agg #[.int .i64 x, .int .i64 y, .int .i64 z] ∧ isI x := by
  obtain ⟨cs, rfl, hsz⟩ : ∃ cs, v = .agg cs ∧ cs.size = P.cellsOf t := by
    have hv' := hv
    simp [Value.okWide, ht] at hv'
    obtain ⟨cs, h1, h2, _⟩ := hv'
    exact ⟨cs, h1, h2⟩
  obtain ⟨l⟩ := cs
  obtain ⟨fuel, hf⟩ := h
  obtain ⟨ys, m, _, hx, hlen, hyl, hg⟩ := DataW.trod_array ht hf
  have hl : l.length = 3 := by simpa [hC] using hsz
  have each : ∀ i (hi : i < 3), ∃ x : Int, l[i]'(by omega) = .int .i64 x ∧ isI x := by
    intro i hi
    have h1 := hg i hi
    rw [hE, List.getElem?_eq_getElem (by omega)] at h1
    have hone : ((l.drop (i * 1)).take 1) = [l[i]'(by omega)] := by
      rw [Nat.mul_one, List.drop_eq_getElem_cons (by omega)]
      rfl
    have h2 : DataW.trod enc P w base spare held m e ((l.drop (i * 1)).take 1) = some (ys[i]'(by omega)) := h1
    rw [hone] at h2
    obtain ⟨x, hx1, _, hwf⟩ := DataW.trod_int he h2
    simp only [List.cons.injEq, and_true] at hx1
    exact ⟨x, hx1, isI_of hwf⟩
  match l, hl, each with
  | [u, z, q], _, each =>
    obtain ⟨x, hx, hwx⟩ := each 0 (by omega)
    obtain ⟨y, hy, _⟩ := each 1 (by omega)
    obtain ⟨y2, hy2, _⟩ := each 2 (by omega)
    simp at hx hy hy2
    exact ⟨x, y, y2, by rw [hx, hy, hy2], hwx⟩
end

set_option maxRecDepth 100000 in
set_option maxHeartbeats 1000000 in
theorem wruns_long (S : WqSaid) (m0 m1 m2 : Int) (ao : Option Addr) (n cap : Nat) (w : World) (hn : 80 < n) (hm : n ≤ maxLen) :
    Calls Try.prog 3 #[.agg #[.int .i64 m0, .int .i64 m1, .int .i64 m2], .slice ao n cap] w fun r w' => r = .returned (.bool true) ∧ Turned [] w w' := by
  unfold maxLen at hm
  have hn' : (80 : Int) < n := by omega
  have TB := Lib.hid (show Turned [] w (w.alloc (.cells #[.int .i64 m0, .int .i64 m1, .int .i64 m2] 22)) from (Turned.refl [] w).alloc _)
  have AW := Lib.hid (awake8 S (w.alloc (.cells #[.int .i64 m0, .int .i64 m1, .int .i64 m2] 22)))
  go_enter Try.func3, Try.ntmps3
  go_wp2_with fail
  refine AW.out.mono ?_
  rintro e w0 ⟨rfl, t0⟩
  have T0 := Lib.hid (TB.out.trans t0 (Newer.refl _ _))
  clear t0
  go_wp2
  go_ret
  exact ⟨rfl, T0.out⟩

set_option maxRecDepth 100000 in
theorem wruns_lifted (S : WqSaid) (os : Os) (started : os.Started) (H : Type) (enc : TypeId × Value → H) :
    ReturnsInHanded {} Try.checked os 3 .any (Rows.waitqRunsSpec.pre6 enc Try.prog Try.f3 Rows.waitqRunsRow.domain false) (Rows.waitqRunsSpec.post enc Try.prog Try.f3 false true false false) := by
  refine returnsInHanded_of_change (C := Try.checked) own started (by kernel_rfl) Try.func3
    (ChangeSpec.witness6 (enc := enc) (C := Try.checked) false ⟨#[], #[.agg #[.int .i64 0, .int .i64 0, .int .i64 0], .slice none 0 0], []⟩ 8 (by kernel_rfl) (by kernel_rfl) (by kernel_rfl) (by kernel_rfl)) ?_
  intro W base args ds gs before hval0 hW hcnd _
  have hval : ∀ (j : Nat) t v, Try.f3.params[j]? = some t → args[j]? = some v → Value.okWide Try.prog W .any base t v := hval0
  have hW' := hW
  obtain ⟨p, q, hA0, hV, rfl, hfz, hnd⟩ := hW
  have hA : DataW.TrodAll enc Try.prog W 0 (fun _ => true) true Try.f3.params.toList args.toList ds p := hA0
  rw [Try.params3] at hA hval
  obtain ⟨v0, v1, d0, d1, p0, p1, rfl, rfl, rfl, h0, h1⟩ := trodAll_two hA
  obtain ⟨rfl, rfl⟩ := trodVars_none hV
  have h0k := h0
  have h1k := h1
  obtain ⟨m0, m1, m2, rfl, hm0⟩ := open_three Try.underlying22 Try.underlying3 (by kernel_rfl) (by kernel_rfl) (hval 0 22 v0 rfl rfl) h0
  obtain ⟨ao, b, off, n, cap, E, rfl, hm, hao, hE, hWf⟩ := open_deeds8 Try.underlying23 Try.underlying34 (by kernel_rfl) rfl rfl rfl (by kernel_rfl) (by kernel_rfl) (by kernel_rfl) Try.underlying32 rfl rfl rfl (by kernel_rfl) (by kernel_rfl) (by kernel_rfl)
    Try.underlying5 Try.underlying3 Try.underlying3 Try.underlying30 Try.underlying3 (hval 1 23 v1 rfl rfl) h1
  clear hA0 hval0
  have hlt0 : ∀ x ∈ p0, x.block < W.heap.size := fun x hx => hW'.lt x (by simp [hx])
  have hlt1 : ∀ x ∈ p1, x.block < W.heap.size := fun x hx => hW'.lt x (by simp [hx])
  have walk : Calls Try.prog 3 #[.agg #[.int .i64 m0, .int .i64 m1, .int .i64 m2], .slice ao n cap] W fun e w' => e = .returned (.bool true) ∧ Turned [] W w' := by
    by_cases hn : n ≤ 80
    · exact wruns_walk S m0 m1 m2 ao b off n cap E W hn hm0 hao hE hWf
    · exact wruns_long S m0 m1 m2 ao n cap W (by omega) hm
  refine walk.mono fun e W' ⟨he, ht⟩ => ?_
  have hb : Below W.heap.size W W' := ht.below (by simp) (Nat.le_refl _)
  subst he
  exact ⟨_, rfl, post_law (pv := []) hW' hb (fun _ _ _ => trodAll_mk1 (shut_bool Try.underlying4 _))
    (trodAll_mk2 (Below.trod laidOut (by kernel_rfl) (of_decide_eq_true (by kernel_rfl)) h0k hb hlt0) (Below.trod laidOut (by kernel_rfl) (of_decide_eq_true (by kernel_rfl)) h1k hb hlt1)) rfl⟩

theorem waitqRuns_of (S : WqSaid) : Rows.WaitqRunsSaid :=
  OpenClaim.holds_of_wide 3 Try.f3 rfl rfl rfl rfl rfl rfl rfl ⟨rfl, rfl, rfl, rfl, rfl⟩ rfl rfl rfl rfl rfl (by kernel_rfl) Try.func3 (by kernel_rfl)
    (of_decide_eq_true (by kernel_rfl)) (by unfold Func.isWrapper; first | (rw [if_pos (by decide +kernel)]; kernel_rfl) | (rw [if_neg (by decide +kernel)]; exact ⟨rfl, rfl⟩))
    (fun os started H enc _ => wruns_lifted S os started H enc)
end Go.Proofs.Ytiffgkmmibhklaa
