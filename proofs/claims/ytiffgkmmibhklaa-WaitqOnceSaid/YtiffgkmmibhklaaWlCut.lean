/-
  slices.DeleteFunc at lines: those whose queue holds nobody go.
-/
import Derived.Test.YtiffgkmmibhklaaWlGet
import Derived.Laws.IdiomCopy
namespace Go.Proofs.Ytiffgkmmibhklaa
open Go.RowKit Go.Maps

/-! ### cells stored in a row, one behind the other -/
theorem owns_setCells {e : TypeId} {size g n cap : Nat} : ∀ (zs : List Value) (o : Nat) (w : World) (xs : List Value), w.ownsRow 0 e size (.slice (some ⟨g, 0, none⟩) n cap) n xs →
    ∃ xs', (w.setCells g o zs).ownsRow 0 e size (.slice (some ⟨g, 0, none⟩) n cap) n xs' ∧ xs'.take o = xs.take o
  | [], o, w, xs, h => ⟨xs, h, rfl⟩
  | v :: r, o, w, xs, h => by
    obtain ⟨xs', h1, h2⟩ := owns_setCells r (o + 1) (w.setCell ⟨g, o, none⟩ v) _ (h.stored o v).1
    refine ⟨xs', h1, ?_⟩
    have h3 := congrArg (List.take o) h2
    rw [List.take_take, List.take_take, Nat.min_eq_left (by omega), List.take_set, List.set_eq_of_length_le (by rw [List.length_take]; omega)] at h3
    exact h3
theorem Turned.setCells {a : World} {X : List Nat} {g : Nat} : ∀ (zs : List Value) (o : Nat) (w : World), Turned X a w → g ∈ X → Turned X a (w.setCells g o zs)
  | [], _, _, h, _ => h
  | v :: r, o, _, h, hg => Turned.setCells r (o + 1) _ (h.setCell (.inl hg) v) hg
theorem run_clear_row {P : Program} (w : World) (t e ty : TypeId) (z : Value) (ht : P.underlying t = some (.slice e)) (hv : ∀ w, (zeroValue e).run P w = .ok z w) (b o n c : Nat) (hn : 0 < n) (zs : List Value) (hzs : (Builtin.zeroCells z.cells n).toList = zs) (h1 : ∀ v ∈ zs, v.oneCell' = true)
    (hc : ∀ j, j < zs.length → (w.cell? ⟨b, o + j, none⟩).isSome = true) (hf : ∀ j, j < zs.length → w.frozen? ⟨b, o + j, none⟩ = false) :
    (Builtin.clear_ #[t] ty #[.slice (some ⟨b, o, none⟩) n c]).run P w = .ok (.tuple #[]) (w.setCells b o zs) := by
  have hst := run_storeCells_cells (P := P) b o zs 0 w (by simpa using hc) (by simpa using hf) h1
  simp only [Nat.add_zero] at hst
  obtain ⟨m, rfl⟩ : ∃ m, n = m + 1 := ⟨n - 1, by omega⟩
  simp [Builtin.clear_, run_underlying ht, hv, hzs, hst]
theorem zeroLn (w : World) : (zeroValue tLn).run Try.prog w = .ok (.agg #[.int .i64 0, .pointer none]) w := by kernel_rfl
theorem zeros_ln (n : Nat) : (Builtin.zeroCells (Value.agg #[.int .i64 0, .pointer none]).cells n).toList.length = n * 2 ∧ ∀ v ∈ (Builtin.zeroCells (Value.agg #[.int .i64 0, .pointer none]).cells n).toList, v.oneCell' = true := by
  have hs : (Value.agg #[.int .i64 0, .pointer none]).cells = #[.int .i64 0, .pointer none] := rfl
  rw [hs]
  constructor
  · simp [Builtin.zeroCells]
  · intro v hv
    simp only [Builtin.zeroCells, Array.toList_map, List.mem_map] at hv
    obtain ⟨i, _, rfl⟩ := hv
    have : i % 2 = 0 ∨ i % 2 = 1 := by omega
    rcases this with h | h <;> simp [h] <;> rfl
theorem cellsL_set : ∀ (L : List Ln) (j : Nat) (x : Ln), j < L.length → cellsOf encL (L.set j x) = ((cellsOf encL L).set (j * 2) (.int .i64 x.key)).set (j * 2 + 1) (.pointer (some ⟨x.qb, 0, none⟩))
  | s :: L, 0, x, _ => by simp [cellsOf]
  | s :: L, j + 1, x, hj => by
    have ih := cellsL_set L j x (by simpa using hj)
    have e0 : (j + 1) * 2 = (j * 2) + 1 + 1 := by omega
    have e1 : (j + 1) * 2 + 1 = (j * 2 + 1) + 1 + 1 := by omega
    rw [e1, e0]
    simp only [cellsOf, List.set_cons_succ, List.flatMap_cons, List.cons_append, List.nil_append] at ih ⊢
    rw [ih]
theorem line_stored {w : World} {g n cap : Nat} {L : List Ln} (h : w.ownsRow 0 tLn 2 (.slice (some ⟨g, 0, none⟩) n cap) L.length (cellsOf encL L)) {j : Nat} (hj : j < L.length) (x : Ln) :
    ((w.setCell ⟨g, j * 2, none⟩ (.int .i64 x.key)).setCell ⟨g, j * 2 + 1, none⟩ (.pointer (some ⟨x.qb, 0, none⟩))).ownsRow 0 tLn 2 (.slice (some ⟨g, 0, none⟩) n cap) (L.set j x).length (cellsOf encL (L.set j x)) := by
  have hn : n = L.length := by
    obtain ⟨_, _, h1, _⟩ := ownsRow_shape h
    simp at h1
    exact h1.2.1
  subst hn
  rw [cellsL_set L j x hj, List.length_set]
  exact ((h.stored (j * 2) _).1.stored (j * 2 + 1) _).1

/-- Does a line hold somebody? -/
def liveL (x : Ln) : Bool := decide (0 < x.P.length)
abbrev lnV (x : Ln) : Value := .agg #[.int .i64 x.key, .pointer (some ⟨x.qb, 0, none⟩)]
abbrev delV1 : Value := .func (.func 69) #[] #[]
/-- What a row's lines hold. -/
abbrev QuesAt (w : World) (e : Int) (L : List Ln) : Prop := ∀ x ∈ L, Wq.FQ w x.qb x.X e x.l x.P

section
variable {w w' : World} {e : Int} {L : List Ln} {v : Value}
set_option maxHeartbeats 400000 in
theorem wlGone {x : Ln} (h : Wq.FQ w x.qb x.X e x.l x.P) : Calls Try.prog 69 #[lnV x] w fun r w' => r = .returned (.bool (!liveL x)) ∧ Turned [] w w' := by
  have T := (Turned.refl [] w).alloc (.cells #[.int .i64 x.key, .pointer (some ⟨x.qb, 0, none⟩)] tLn)
  have HL := Lib.hid (Wq.fqlen_yes (h.keep0 T))
  have HT := Lib.hid T
  have hv : (!liveL x) = ((x.P.length : Int) == 0) := by
    unfold liveL
    cases hp : x.P with
    | nil => simp
    | cons a l => simp; omega
  rw [hv]
  obtain ⟨k, q, Xx, ll, P⟩ := x
  simp only at HL ⊢
  clear h T hv
  go_enter Try.func69, Try.ntmps69
  go_wp2_with fail
  refine HL.out.mono ?_
  rintro r w1 ⟨rfl, n, rfl⟩
  go_wp2
  go_ret
  exact ⟨rfl, HT.out.drewN _⟩

set_option maxRecDepth 100000 in
set_option maxHeartbeats 1600000 in
theorem wlIndex (hq : QuesAt w e L) (hr : w.ownsRow 0 tLn 2 v L.length (cellsOf encL L)) :
    Calls Try.prog 81 #[v, delV1] w fun r w' => r = .returned (.int .i64 (placeI (fun x => !liveL x) L)) ∧ Turned [] w w' := by
  obtain ⟨av, vcap, rfl, hc1, hc2⟩ := ownsRow_shape hr
  have hlen : L.length ≤ 9223372036854775807 := by unfold maxLen at hc2; omega
  have HR := Lib.hid hr
  have HQ := Lib.hid hq
  have HT0 := Lib.hid (Turned.refl [] w)
  clear hr hq hc1 hc2
  go_enter Try.func81, Try.ntmps81
  go_wp2
  go_loopw [8] (fun j wr => ∃ k : Nat, k ≤ L.length ∧ j = .int .i64 k ∧ Hid (∀ q (hq : q < L.length), q < k → (!liveL L[q]) = false) ∧ Hid (Turned [] w wr)) (fun j _ => L.length - (intOf j).toNat)
  case atStart => exact ⟨0, Nat.zero_le _, rfl, Lib.hid fun q hq h => by omega, HT0⟩
  case round =>
    obtain ⟨k, hk, rfl, HP, HT⟩ := hrel
    by_cases hlt : k < L.length
    · have hr := ownsRow_same (w' := wr) HR.out (fun j _ hl => HT.out.block j hl (by simp))
      obtain ⟨g, cap', hv, _, _⟩ := ownsRow_pos hr (by omega)
      simp only [Value.slice.injEq] at hv
      obtain ⟨rfl, _, rfl⟩ := hv
      obtain ⟨r0, r1, _⟩ := line_cells hr hlt
      obtain ⟨y, hy⟩ : ∃ y, L[k] = y := ⟨_, rfl⟩
      rw [hy] at r0 r1
      have HY := Lib.hid hy
      have HG := Lib.hid (wlGone (((HQ.out y (by rw [← hy]; exact List.getElem_mem hlt))).keep0 HT.out))
      have i0 : (0 : Int) ≤ k := by omega
      have i1 : (k : Int) < L.length := by omega
      obtain ⟨bb, hbb⟩ : ∃ bb, (!liveL y) = bb := ⟨_, rfl⟩
      rw [hbb] at HG
      have HBB := Lib.hid hbb
      clear hr hy hbb
      go_wp2_with fail
      with_reducible refine HG.out.mono ?_
      rintro r w2 ⟨rfl, t2⟩
      have T2 := Lib.hid (HT.out.j t2)
      clear t2 r0 r1
      cases bb with
      | true =>
        go_wp2
        go_ret
        rw [place_some hlt (by rw [HY.out]; exact HBB.out) (fun q hq hqk => HP.out q hq hqk)]
        exact ⟨rfl, T2.out⟩
      | false =>
        go_wp2
        go_roundw
        case rel =>
          refine ⟨k + 1, by omega, by simp, Lib.hid fun q hq hqk => ?_, T2⟩
          by_cases e2 : q = k
          · subst e2
            rw [HY.out]
            exact HBB.out
          · exact HP.out q hq (by omega)
        case measure => simp [intOf]; omega
    · obtain rfl : k = L.length := by omega
      go_wp2
      go_ret
      rw [place_none (fun q hq => HP.out q hq hq)]
      exact ⟨rfl, HT.out⟩

theorem filter_take_succ {α : Type} (p : α → Bool) (L : List α) (j : Nat) (hj : j < L.length) : (L.take (j + 1)).filter p = (L.take j).filter p ++ if p L[j] then [L[j]] else [] := by
  rw [List.take_succ_eq_append_getElem hj, List.filter_append]
  cases h : p L[j] <;> simp [h]

set_option maxRecDepth 100000 in
set_option maxHeartbeats 3200000 in
theorem wlDelete (hq : QuesAt w e L) (hoff : ∀ x ∈ L, ∀ k ∈ x.X, k ∉ v.ownBlock.toList) (hr : w.ownsRow 0 tLn 2 v L.length (cellsOf encL L)) :
    Calls Try.prog 68 #[v, delV1] w fun r w' => ∃ v', r = .returned v' ∧ w'.ownsRow 0 tLn 2 v' (L.filter liveL).length (cellsOf encL (L.filter liveL)) ∧
      Turned v.ownBlock.toList w w' ∧ ∀ k ∈ v'.ownBlock.toList, k ∈ v.ownBlock.toList := by
  have HI := Lib.hid (wlIndex hq hr)
  rcases place_cases (fun x => !liveL x) L with ⟨h1, h2⟩ | ⟨i, hi, h1, h2⟩
  · -- nobody goes
    rw [h1] at HI
    have hf : L.filter liveL = L := List.filter_eq_self.2 (fun x hx => by simpa using h2 x hx)
    rw [hf]
    have HR := Lib.hid hr
    obtain ⟨av, vcap, rfl, _, _⟩ := ownsRow_shape hr
    clear hr hq hoff h1 h2 hf
    go_enter Try.func68, Try.ntmps68
    go_wp2_with fail
    refine HI.out.mono ?_
    rintro r w1 ⟨rfl, t1⟩
    have T1 := Lib.hid t1
    clear t1
    go_wp2
    go_ret
    exact ⟨_, rfl, ownsRow_same HR.out (fun k _ hl => T1.out.block k hl (by simp)), T1.out.mono (fun k hk => by simp at hk), fun k hk => hk⟩
  · rw [h1] at HI
    have hpre : ∀ q (hq : q < L.length), q < i → liveL L[q] = true := by
      intro q hq hqi
      have h3 := List.findIdx?_eq_some_iff_getElem.1 (show L.findIdx? (fun x => !liveL x) = some i by
        have h4 := h1
        unfold placeI at h4
        cases hh : L.findIdx? (fun x => !liveL x) with
        | none => rw [hh] at h4; simp at h4
        | some j => rw [hh] at h4; simp at h4; rw [show j = i by omega])
      obtain ⟨_, _, h5⟩ := h3
      simpa using h5 q hqi
    have hK : (L.take (i + 1)).filter liveL = L.take i := by
      rw [filter_take_succ liveL L i hi]
      have h3 : liveL L[i] = false := by simpa using h2
      rw [h3]
      simp only [Bool.false_eq_true, if_false, List.append_nil]
      refine List.filter_eq_self.2 (fun x hx => ?_)
      obtain ⟨q, hq, rfl⟩ := List.getElem_of_mem hx
      rw [List.length_take] at hq
      rw [List.getElem_take]
      exact hpre q (by omega) (by omega)
    obtain ⟨g, cap, rfl, hc1, hc2⟩ := ownsRow_pos hr (by omega)
    have hlen : L.length ≤ 9223372036854775807 := by unfold maxLen at hc2; omega
    have HR := Lib.hid hr
    have HQ := Lib.hid hq
    have HO := Lib.hid hoff
    have HK := Lib.hid hK
    have hw1 : IntKind.i64.wrap ((i : Int) + 1) = (i : Int) + 1 := by rw [IntKind.wrap_i64]; omega
    have hne : ((i : Int) == -1) = false := by simp
    have hi' : (i : Int) ≠ -1 := by omega
    clear hr hq hoff h1 h2 hpre hK
    go_enter Try.func68, Try.ntmps68
    go_wp2_with fail
    refine HI.out.mono ?_
    rintro r w1 ⟨rfl, t1⟩
    have T1 := Lib.hid t1
    clear t1
    go_wp2
    go_loopw [5, 6] (fun a c wr => ∃ (p j : Nat) (M : List Ln), p < j ∧ j ≤ L.length ∧ a = .int .i64 p ∧ c = .int .i64 j ∧ Hid (M.length = L.length) ∧ Hid (M.take p = (L.take j).filter liveL) ∧ Hid (M.drop j = L.drop j) ∧ Hid (wr.ownsRow 0 tLn 2 (.slice (some ⟨g, 0, none⟩) L.length cap) M.length (cellsOf encL M)) ∧ Hid (Turned [g] w wr))
      (fun a c _ => L.length - (intOf c).toNat)
    case atStart =>
      refine ⟨i, i + 1, L, by omega, by omega, rfl, by simp, Lib.hid rfl, Lib.hid HK.out.symm, Lib.hid rfl, Lib.hid (ownsRow_same HR.out (fun k _ hl => T1.out.block k hl (by simp))), Lib.hid (T1.out.mono (fun k hk => by simp at hk))⟩
    case round =>
      obtain ⟨p, j, M, hpj, hj, rfl, rfl, HM, HA, HB, HRR, HT⟩ := hrel
      have hM := HM.out
      by_cases hlt : j < L.length
      · have hjM : j < M.length := by omega
        have hpM : p < M.length := by omega
        obtain ⟨r0, r1, ff⟩ := line_cells HRR.out hjM
        obtain ⟨s0, s1, _⟩ := line_cells HRR.out hpM
        have hMj : M[j] = L[j] := by
          have h1 := HB.out
          rw [List.drop_eq_getElem_cons hjM, List.drop_eq_getElem_cons hlt] at h1
          exact (List.cons.inj h1).1
        rw [hMj] at r0 r1
        obtain ⟨y, hy⟩ : ∃ y, L[j] = y := ⟨_, rfl⟩
        rw [hy] at r0 r1
        have HY := Lib.hid hy
        have HMJ := Lib.hid hMj
        obtain ⟨z, hz⟩ : ∃ z, M[p] = z := ⟨_, rfl⟩
        rw [hz] at s0 s1
        have f0 := ff (p * 2)
        have f1 := ff (p * 2 + 1)
        have hgl := ownsRow_lt HRR.out g (by simp [Value.ownBlock])
        have hym : y ∈ L := by rw [← hy]; exact List.getElem_mem hlt
        obtain ⟨W2, hW2⟩ : ∃ W2, wr.alloc (.cells #[.int .i64 y.key, .pointer (some ⟨y.qb, 0, none⟩)] tLn) = W2 := ⟨_, rfl⟩
        have t2 : Turned [] wr W2 := hW2 ▸ (Turned.refl [] wr).alloc _
        have k2 : W2.heap[wr.heap.size]? = some (.cells #[.int .i64 y.key, .pointer (some ⟨y.qb, 0, none⟩)] tLn (0, 0)) := hW2 ▸ heap_alloc_new wr _
        have HG := Lib.hid (wlGone ((((HQ.out y hym).keep HT.out (fun k hk hx => HO.out y hym k hk (by simpa [Value.ownBlock] using hx)))).keep0 t2))
        have i0 : (0 : Int) ≤ j := by omega
        have i1 : (j : Int) < L.length := by omega
        have p0 : (0 : Int) ≤ p := by omega
        have p1 : (p : Int) < L.length := by omega
        obtain ⟨bb, hbb⟩ : ∃ bb, (!liveL y) = bb := ⟨_, rfl⟩
        rw [hbb] at HG
        have HBB := Lib.hid hbb
        have K2 := Lib.hid k2
        obtain ⟨m0, m1, _⟩ := two_cells k2
        have HR2 := Lib.hid (ownsRow_same HRR.out (fun k _ hl => t2.block k hl (by simp)))
        have HT2 := Lib.hid (HT.out.trans (t2.mono (fun k hk => by simp at hk) : Turned [g] wr W2) (Newer.refl _ _))
        have hgR : wr.heap.size ≠ g := by omega
        have hw1 : IntKind.i64.wrap ((j : Int) + 1) = (j : Int) + 1 := by rw [IntKind.wrap_i64]; omega
        have hw2 : IntKind.i64.wrap ((p : Int) + 1) = (p : Int) + 1 := by rw [IntKind.wrap_i64]; omega
        clear hy hz hbb hMj k2 t2 ff s0 s1 f0 f1 HRR HT hM
        go_wp2_with fail
        (try rw [hW2])
        clear hW2
        with_reducible refine HG.out.mono ?_
        rintro r w3 ⟨rfl, t3⟩
        have hr3 := ownsRow_same (w' := w3) HR2.out (fun k _ hl => t3.block k hl (by simp))
        have k3 := t3.same K2.out (by simp)
        obtain ⟨n0, n1, _⟩ := two_cells k3
        obtain ⟨s0, s1, ff⟩ := line_cells hr3 hpM
        have f0 := ff (p * 2)
        have f1 := ff (p * 2 + 1)
        have HR3 := Lib.hid hr3
        have T3 := Lib.hid (HT2.out.trans (t3.mono (fun k hk => by simp at hk) : Turned [g] W2 w3) (Newer.refl _ _))
        clear t3 hr3 k3 ff m0 m1 r0 r1
        have hfs := filter_take_succ liveL L j hlt
        rw [HY.out] at hfs
        have HFS := Lib.hid hfs
        clear hfs
        cases bb with
        | true =>
          go_wp2
          go_roundw
          case rel =>
            refine ⟨p, j + 1, M, by omega, by omega, rfl, by simp, HM, Lib.hid ?_, Lib.hid ?_, HR3, T3⟩
            · have h1 : liveL y = false := by simpa using HBB.out
              rw [HFS.out, h1, HA.out]
              simp
            · have h1 := congrArg List.tail HB.out
              simpa using h1
          case measure => simp [intOf]; omega
        | false =>
          have HS := Lib.hid (line_stored HR3.out hpM y)
          have HTS := Lib.hid ((T3.out.setCell (p := ⟨g, p * 2, none⟩) (.inl (by simp)) (.int .i64 y.key)).setCell (p := ⟨g, p * 2 + 1, none⟩) (.inl (by simp)) (.pointer (some ⟨y.qb, 0, none⟩)))
          go_wp2
          go_roundw
          case rel =>
            refine ⟨p + 1, j + 1, M.set p y, by omega, by omega, by simp, by simp, Lib.hid (by rw [List.length_set]; exact HM.out), Lib.hid ?_, Lib.hid ?_, HS, HTS⟩
            · have h1 : liveL y = true := by simpa using HBB.out
              rw [HFS.out, h1, if_pos rfl, ← HA.out, List.take_succ_eq_append_getElem (by rw [List.length_set]; exact hpM), List.take_set, List.set_eq_of_length_le (by rw [List.length_take]; omega), List.getElem_set_self]
            · rw [List.drop_set_of_lt (by omega)]
              have h1 := congrArg List.tail HB.out
              simpa using h1
          case measure => simp [intOf]; omega
      · obtain rfl : j = L.length := by omega
        have hpl : p < L.length := by omega
        have hrr := HRR.out
        rw [hM] at hrr
        obtain ⟨zl, z1⟩ := zeros_ln (L.length - p)
        obtain ⟨zs, hzs⟩ : ∃ zs, (Builtin.zeroCells (Value.agg #[.int .i64 0, .pointer none]).cells (L.length - p)).toList = zs := ⟨_, rfl⟩
        rw [hzs] at zl z1
        have hcl : ∀ ty, (Builtin.clear_ #[tSl] ty #[.slice (some ⟨g, p * 2, none⟩) (L.length - p) (cap - p)]).run Try.prog wr = .ok (.tuple #[]) (wr.setCells g (p * 2) zs) := by
          intro ty
          refine run_clear_row wr tSl tLn ty _ Try.underlying107 zeroLn g (p * 2) _ _ (by omega) zs hzs z1 (fun q hq => ?_) (fun q _ => hrr.frozenAt _)
          rw [hrr.cellAt _ (by rw [zl] at hq; omega)]
          rw [List.getElem?_eq_getElem (by rw [cellsOf_len encL_len, hM]; rw [zl] at hq; omega)]
          rfl
        obtain ⟨xs', o1, o2⟩ := owns_setCells zs (p * 2) wr _ hrr
        have o3 := ownsRow_cut o1 (k := p) (by omega)
        rw [o2, ← cellsOf_take encL_len, HA.out, List.take_length] at o3
        have hlk : p = (L.filter liveL).length := by
          have h1 := congrArg List.length HA.out
          rw [List.take_length, List.length_take] at h1
          omega
        have HF := Lib.hid o3
        have HLK := Lib.hid hlk
        have HTF := Lib.hid (Turned.setCells (g := g) zs (p * 2) wr HT.out (by simp))
        have p0 : (0 : Int) ≤ p := by omega
        have p1 : (p : Int) ≤ L.length := by omega
        have p2 : (p : Int) ≤ cap := by omega
        have p3 : p ≤ cap := by omega
        have p4 : p ≤ L.length := by omega
        clear hrr o1 o2 o3 hlk zl z1 hzs HM HA HB hM
        go_wp2_with (simp only [hcl])
        go_ret
        refine ⟨_, rfl, ?_, HTF.out, fun k hk => hk⟩
        rw [← HLK.out]
        exact HF.out
end
end Go.Proofs.Ytiffgkmmibhklaa
