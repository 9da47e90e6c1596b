/-
  The program's reader: fail, take, need.
-/
import Derived.Test.YtmcfjlkjijaflaaDoorRdNext
import Derived.Laws.StructEq
import Derived.IntWalk
namespace Go.Proofs.YtmcfjlkjijaflaaDoor
open Go.RowKit

/-- What a step of the reader leaves. -/
abbrev StepP (v : Value) (w : World) (b : Nat) (ao : Option Addr) (n cap c : Nat) (e : Int) (r : Ending) (w' : World) : Prop :=
  r = .returned v ∧ w'.heap[b]? = some (.cells (rdC ao n cap c e) 115 (0, 0)) ∧ Turned [b] w w'
theorem rd_set1 {w : World} {b : Nat} {ao : Option Addr} {n cap c c' : Nat} {e : Int} (h : w.heap[b]? = some (.cells (rdC ao n cap c e) 115 (0, 0))) :
    (w.setCell ⟨b, 1, none⟩ (.int .i64 c')).heap[b]? = some (.cells (rdC ao n cap c' e) 115 (0, 0)) := by
  rw [heap_setCell_same _ _ _ _ _ _ h]
  rfl
theorem rd_set2 {w : World} {b : Nat} {ao : Option Addr} {n cap c : Nat} {e e' : Int} (h : w.heap[b]? = some (.cells (rdC ao n cap c e) 115 (0, 0))) :
    (w.setCell ⟨b, 2, none⟩ (.int .i64 e')).heap[b]? = some (.cells (rdC ao n cap c e') 115 (0, 0)) := by
  rw [heap_setCell_same _ _ _ _ _ _ h]
  rfl
theorem goes_live {w : World} {b : Nat} {ao : Option Addr} {n cap c : Nat} (h : w.heap[b]? = some (.cells (rdC ao n cap c 0) 115 (0, 0))) :
    Calls Tryd.prog 76 #[.pointer (some ⟨b, 0, none⟩)] w fun r w' => r = .returned (.bool true) ∧ w' = w := by
  obtain ⟨d0, d1, d2⟩ := three_cells h
  clear h
  go_enter Tryd.func76, Tryd.ntmps76
  go_wp2
  go_ret
  exact ⟨rfl, rfl⟩
theorem goes_dead {w : World} {b : Nat} {ao : Option Addr} {n cap c : Nat} {e : Int} (he : e ≠ 0) (h : w.heap[b]? = some (.cells (rdC ao n cap c e) 115 (0, 0))) :
    Calls Tryd.prog 76 #[.pointer (some ⟨b, 0, none⟩)] w fun r w' => r = .returned (.bool false) ∧ w' = w := by
  obtain ⟨d0, d1, d2⟩ := three_cells h
  have e0 : (e == 0) = false := by simpa using he
  clear h he
  go_enter Tryd.func76, Tryd.ntmps76
  go_wp2
  go_ret
  exact ⟨rfl, rfl⟩
theorem fail_live {w : World} {b : Nat} {ao : Option Addr} {n cap c : Nat} (h : w.heap[b]? = some (.cells (rdC ao n cap c 0) 115 (0, 0))) (k : Int) :
    Calls Tryd.prog 80 #[.pointer (some ⟨b, 0, none⟩), .int .i64 k] w (StepP (.tuple #[]) w b ao n cap c k) := by
  obtain ⟨d0, d1, d2⟩ := three_cells h
  have f2 := not_frozen h 2
  have HS := Lib.hid (rd_set2 (e' := k) h)
  have HG := Lib.hid (goes_live h)
  clear h
  go_enter Tryd.func80, Tryd.ntmps80
  go_wp2_with fail
  with_reducible refine HG.out.mono ?_
  rintro r w ⟨rfl, rfl⟩
  go_wp2
  go_end0
  exact ⟨rfl, HS.out, (Turned.refl _ w).setCell (.inl (by simp)) _⟩
theorem fail_dead {w : World} {b : Nat} {ao : Option Addr} {n cap c : Nat} {e : Int} (he : e ≠ 0) (h : w.heap[b]? = some (.cells (rdC ao n cap c e) 115 (0, 0))) (k : Int) :
    Calls Tryd.prog 80 #[.pointer (some ⟨b, 0, none⟩), .int .i64 k] w (StepP (.tuple #[]) w b ao n cap c e) := by
  obtain ⟨d0, d1, d2⟩ := three_cells h
  have e0 : (e == 0) = false := by simpa using he
  have HH := Lib.hid h
  have HG := Lib.hid (goes_dead he h)
  clear h he
  go_enter Tryd.func80, Tryd.ntmps80
  go_wp2_with fail
  with_reducible refine HG.out.mono ?_
  rintro r w ⟨rfl, rfl⟩
  go_wp2
  go_end0
  exact ⟨rfl, HH.out, Turned.refl _ w⟩
/-- Two words, held against each other cell by cell. -/
theorem words_ne {x y : Wd} (h : x ≠ y) : x.1 ≠ y.1 ∨ (x.1 = y.1 ∧ x.2.1 ≠ y.2.1) ∨ (x.1 = y.1 ∧ x.2.1 = y.2.1 ∧ x.2.2.1 ≠ y.2.2.1) ∨ (x.1 = y.1 ∧ x.2.1 = y.2.1 ∧ x.2.2.1 = y.2.2.1 ∧ x.2.2.2 ≠ y.2.2.2) := by
  obtain ⟨a, b, c, d⟩ := x
  obtain ⟨a', b', c', d'⟩ := y
  simp only [ne_eq, Prod.mk.injEq] at h ⊢
  by_cases h1 : a = a'
  · by_cases h2 : b = b'
    · by_cases h3 : c = c'
      · by_cases h4 : d = d'
        · exact absurd ⟨h1, h2, h3, h4⟩ h
        · exact .inr (.inr (.inr ⟨h1, h2, h3, h4⟩))
      · exact .inr (.inr (.inl ⟨h1, h2, h3⟩))
    · exact .inr (.inl ⟨h1, h2⟩)
  · exact .inl h1
theorem text_eqb (a b : List By) : ((⟨a.toArray⟩ : ByteArray).toList == (⟨b.toArray⟩ : ByteArray).toList) = decide (a = b) := by
  rw [Lib.toList_data, Lib.toList_data, Bool.eq_iff_iff]
  simp
theorem eql_words (x y : Wd) (W : World) : (Op.equalIn 10000 74 (wdV x) (wdV y)).run Tryd.prog W = .ok (decide (x = y)) W := by
  obtain ⟨a, b, c, d⟩ := x
  obtain ⟨a', b', c', d'⟩ := y
  unfold wdV
  have h2 := text_eqb b b'
  obtain ⟨t, ht⟩ : ∃ t : ByteArray, ⟨b.toArray⟩ = t := ⟨_, rfl⟩
  obtain ⟨t', ht'⟩ : ∃ t : ByteArray, ⟨b'.toArray⟩ = t := ⟨_, rfl⟩
  simp only [ht, ht'] at h2 ⊢
  by_cases h1 : a = a'
  · subst h1
    by_cases hb : b = b'
    · subst hb
      by_cases h3 : c = c'
      · subst h3
        by_cases h4 : d = d'
        · subst h4
          rw [decide_eq_true rfl] at h2 ⊢
          go_simp
        · have e : decide ((a, b, c, d) = ((a, b, c, d') : Wd)) = false := by simp [h4]
          rw [e]
          have q : (d == d') = false := by simpa using h4
          go_simp
      · have e : decide ((a, b, c, d) = ((a, b, c', d') : Wd)) = false := by simp [h3]
        rw [e]
        have q : (c == c') = false := by simpa using h3
        go_simp
    · have e : decide ((a, b, c, d) = ((a, b', c', d') : Wd)) = false := by simp [hb]
      rw [e]
      rw [decide_eq_false hb] at h2
      go_simp
  · have e : decide ((a, b, c, d) = ((a', b', c', d') : Wd)) = false := by simp [h1]
    rw [e]
    have q : (a == a') = false := by simpa using h1
    go_simp
/-- '!=' between two words. -/
theorem neq_words (x y : Wd) (W : World) : (binOp .neq 74 (wdV x) (wdV y)).run Tryd.prog W = .ok (.bool (!decide (x = y))) W := by
  unfold wdV
  rw [run_neq_struct]
  have h := eql_words x y W
  unfold wdV at h
  rw [h]
  rfl
theorem eq_words (x y : Wd) (W : World) : (binOp .eql 74 (wdV x) (wdV y)).run Tryd.prog W = .ok (.bool (decide (x = y))) W := by
  unfold wdV
  rw [run_eql_struct]
  have h := eql_words x y W
  unfold wdV at h
  rw [h]
  rfl
/-- The boxed word of take, and the reader. -/
theorem take_boxes {w : World} {b : Nat} {ao : Option Addr} {bw off cap : Nat} {L : List Wd} {c : Nat} {e : Int} (h : RdI w b ao bw off cap L c e) (x0 x1 x2 x3 : Value) :
    ∀ V, Below (w.alloc (.cells #[x0, x1, x2, x3] 74)).heap.size (w.alloc (.cells #[x0, x1, x2, x3] 74)) V →
      (V.cell? ⟨b, 2, none⟩ = some (.int .i64 e) ∧ V.cell? ⟨w.heap.size, 0, none⟩ = some x0 ∧ V.cell? ⟨w.heap.size, 1, none⟩ = some x1 ∧ V.cell? ⟨w.heap.size, 2, none⟩ = some x2 ∧ V.cell? ⟨w.heap.size, 3, none⟩ = some x3) ∧ RdI V b ao bw off cap L c e ∧ Below w.heap.size w V := by
  intro V hV
  obtain ⟨h1, h2⟩ := box_kept hV
  have h3 := h.below h2
  obtain ⟨c0, c1, c2, c3⟩ := word_cells h1
  obtain ⟨_, _, d2⟩ := three_cells h3.rd
  exact ⟨⟨d2, c0, c1, c2, c3⟩, h3, h2⟩
set_option maxRecDepth 100000 in
set_option maxHeartbeats 3200000 in
theorem take_dead {w : World} {b : Nat} {ao : Option Addr} {bw off cap : Nat} {L : List Wd} {c : Nat} {e : Int} (h : RdI w b ao bw off cap L c e) (he : e ≠ 0) (x : Wd) :
    Calls Tryd.prog 69 #[.pointer (some ⟨b, 0, none⟩), wdV x] w (StepP (.bool false) w b ao L.length cap c e) := by
  have HS := Lib.hid (take_boxes h (.int .i64 x.1) (.string ⟨x.2.1.toArray⟩) (.int .i64 x.2.2.1) (.int .i64 x.2.2.2))
  have HGD := Lib.hid (fun V hV => goes_dead he (HS.out V hV).2.1.rd)
  unfold wdV
  clear h
  go_enter Tryd.func69, Tryd.ntmps69
  go_wp2_with fail
  go_quiet ((go_at_call 76; exact Calls.quiet_of_same (HGD.out _ (below_drewN (Below.refl _ _) _))))
  go_wp2
  go_ret
  have h2 := HS.out _ (below_drewN (Below.refl _ _) nq)
  exact ⟨rfl, h2.2.1.rd, turned_below h2.2.2 _⟩
/-- Behind the last word. -/
theorem taken_end {w : World} {b : Nat} {ao : Option Addr} {bw off cap : Nat} {L : List Wd} {c : Nat} (h : RdI w b ao bw off cap L c 0) (hc : L.length ≤ c) (x : Wd) :
    Calls Tryd.prog 69 #[.pointer (some ⟨b, 0, none⟩), wdV x] w (StepP (.bool false) w b ao L.length cap c 0) := by
  have HS := Lib.hid (take_boxes h (.int .i64 x.1) (.string ⟨x.2.1.toArray⟩) (.int .i64 x.2.2.1) (.int .i64 x.2.2.2))
  have HGD := Lib.hid (fun V hV => goes_live (HS.out V hV).2.1.rd)
  have he := fun V hV => ends_any (HS.out V hV).2.1
  rw [decide_eq_true hc] at he
  have HED := Lib.hid he
  clear he
  obtain ⟨n, hn⟩ : ∃ n, L.length = n := ⟨_, rfl⟩
  obtain ⟨d0, d1, d2⟩ := three_cells h.rd
  have hbl := lt_of_block h.rd
  have HN := Lib.hid hn
  rw [hn] at hc d0 ⊢
  have hg : (n : Int) ≤ c := by omega
  have hg2 : decide ((n : Int) ≤ c) = true := by simp; omega
  have hg3 : decide (n ≤ c) = true := by simp; omega
  unfold wdV
  clear h hn
  go_enter Tryd.func69, Tryd.ntmps69
  go_wp2_with fail
  go_quiet ((first | (go_at_call 76; exact Calls.quiet_of_same (HGD.out _ (below_drewN (Below.refl _ _) _))) | (go_at_call 77; exact Calls.quiet_of (HED.out _ (below_drewN (Below.refl _ _) _)))))
  go_wp2
  go_ret
  have h2 := HS.out _ (below_drewN (Below.refl _ _) nq)
  have h3 := h2.2.1.rd
  rw [HN.out] at h3
  exact ⟨rfl, h3, turned_below h2.2.2 _⟩
set_option maxRecDepth 100000 in
set_option maxHeartbeats 3200000 in
theorem take_yes {w : World} {b : Nat} {ao : Option Addr} {bw off cap : Nat} {L : List Wd} {c : Nat} (h : RdI w b ao bw off cap L c 0) (hc : c < L.length) {x : Wd} (hx : nextR L c = x) :
    Calls Tryd.prog 69 #[.pointer (some ⟨b, 0, none⟩), wdV x] w (StepP (.bool true) w b ao L.length cap (c + 1) 0) := by
  have HS := Lib.hid (take_boxes h (.int .i64 x.1) (.string ⟨x.2.1.toArray⟩) (.int .i64 x.2.2.1) (.int .i64 x.2.2.2))
  have HGL := Lib.hid (fun V hV => goes_live (HS.out V hV).2.1.rd)
  have HN := Lib.hid (fun V hV => next_any (HS.out V hV).2.1)
  have he := fun V hV => ends_any (HS.out V hV).2.1
  rw [decide_eq_false (by omega)] at he
  have HE := Lib.hid he
  clear he
  simp only [hx] at HN
  have hq := fun W => neq_words x x W
  rw [decide_eq_true rfl, Bool.not_true] at hq
  have hcl : c ≤ 100000 := Nat.le_trans h.le h.len
  have hc1 : ((c + 1 : Nat) : Int) = (c : Int) + 1 := by omega
  have hcw : IntKind.i64.wrap ((c : Int) + 1) = (c : Int) + 1 := IntWalk.i64_in _ (by omega)
  have HC := Lib.hid hc1
  unfold wdV at hq HN ⊢
  obtain ⟨tx, htx⟩ : ∃ t : ByteArray, ⟨x.2.1.toArray⟩ = t := ⟨_, rfl⟩
  simp only [htx] at HS HGL HE HN hq ⊢
  obtain ⟨x0, _, x2, x3⟩ := x
  simp only at HS HGL HE HN hq ⊢
  obtain ⟨n, hn⟩ : ∃ n, L.length = n := ⟨_, rfl⟩
  rw [hn] at hc ⊢
  have hg : ¬ (n : Int) ≤ c := by omega
  have hg2 : decide ((n : Int) ≤ c) = false := by simp; omega
  have hg3 : decide (n ≤ c) = false := by simp; omega
  have HV := Lib.hid (fun (V : World) (hV : Below (w.alloc (.cells #[.int .i64 x0, .string tx, .int .i64 x2, .int .i64 x3] 74)).heap.size (w.alloc (.cells #[.int .i64 x0, .string tx, .int .i64 x2, .int .i64 x3] 74)) V) => (by
    obtain ⟨⟨_, a0, a1, a2, a3⟩, k, _⟩ := HS.out V hV
    obtain ⟨d0, d1, _⟩ := three_cells k.rd
    rw [hn] at d0
    exact ⟨d0, d1, a0, a1, a2, a3⟩ : V.cell? ⟨b, 0, none⟩ = some (.slice ao n cap) ∧ V.cell? ⟨b, 1, none⟩ = some (.int .i64 c) ∧ V.cell? ⟨w.heap.size, 0, none⟩ = some (.int .i64 x0) ∧ V.cell? ⟨w.heap.size, 1, none⟩ = some (.string tx) ∧ V.cell? ⟨w.heap.size, 2, none⟩ = some (.int .i64 x2) ∧ V.cell? ⟨w.heap.size, 3, none⟩ = some (.int .i64 x3)))
  have HRD := Lib.hid (fun (V : World) (hV : Below (w.alloc (.cells #[.int .i64 x0, .string tx, .int .i64 x2, .int .i64 x3] 74)).heap.size (w.alloc (.cells #[.int .i64 x0, .string tx, .int .i64 x2, .int .i64 x3] 74)) V) => (by
    have k := (HS.out V hV).2.1.rd
    rw [hn] at k
    exact ⟨k, (HS.out V hV).2.2⟩ : V.heap[b]? = some (.cells (rdC ao n cap c 0) 115 (0, 0)) ∧ Below w.heap.size w V))
  clear h hx htx hc1 hn hc HS
  have HB0 := Lib.hid ((Below.refl (w.alloc (.cells #[.int .i64 x0, .string tx, .int .i64 x2, .int .i64 x3] 74)).heap.size (w.alloc (.cells #[.int .i64 x0, .string tx, .int .i64 x2, .int .i64 x3] 74))).drew)
  have s0 := HV.out _ HB0.out
  go_enter Tryd.func69, Tryd.ntmps69
  go_wp2_with fail
  go_region_held3 (fun V => V.cell? ⟨b, 0, none⟩ = some (.slice ao n cap) ∧ V.cell? ⟨b, 1, none⟩ = some (.int .i64 c) ∧ V.cell? ⟨w.heap.size, 0, none⟩ = some (.int .i64 x0) ∧ V.cell? ⟨w.heap.size, 1, none⟩ = some (.string tx) ∧ V.cell? ⟨w.heap.size, 2, none⟩ = some (.int .i64 x2) ∧ V.cell? ⟨w.heap.size, 3, none⟩ = some (.int .i64 x3))
    (first | exact s0 | exact se | exact s1)
    (first
      | (go_at_call 76
         first
         | (with_reducible refine (HGL.out _ HB0.out).mono ?_; rintro r V1 ⟨rfl, rfl⟩)
         | (with_reducible refine (HGL.out _ HV1.out).mono ?_; rintro r V1 ⟨rfl, rfl⟩))
      | (go_at_call 77
         with_reducible refine (HE.out _ HB0.out).mono ?_
         rintro r V0 ⟨rfl, ne, hwe⟩
         have hbe := below_drewN HB0.out ne
         rw [← hwe] at hbe
         have HBE := Lib.hid hbe
         have se := HV.out _ HBE.out
         clear hwe hbe)
      | (go_at_call 79
         with_reducible refine (HN.out _ HBE.out).mono ?_
         rintro r V1 ⟨rfl, hb⟩
         have HV1 := Lib.hid (HBE.out.trans (hb.mono HBE.out.size))
         have s1 := HV.out _ HV1.out
         clear hb))
  have hrd := (HRD.out _ HV1.out).1
  obtain ⟨d0, d1, d2⟩ := three_cells hrd
  have fd1 := not_frozen hrd 1
  have HR := Lib.hid (rd_set1 (c' := c + 1) hrd)
  clear s0 se s1 hrd hq
  go_wp2
  go_ret
  have hR := HR.out
  rw [HC.out] at hR
  exact ⟨rfl, hR, (turned_below (HRD.out _ HV1.out).2 _).setCell (.inl (by simp)) _⟩
set_option maxRecDepth 100000 in
set_option maxHeartbeats 3200000 in
theorem take_no {w : World} {b : Nat} {ao : Option Addr} {bw off cap : Nat} {L : List Wd} {c : Nat} (h : RdI w b ao bw off cap L c 0) (hc : c < L.length) {x : Wd} (hx : nextR L c ≠ x) :
    Calls Tryd.prog 69 #[.pointer (some ⟨b, 0, none⟩), wdV x] w (StepP (.bool false) w b ao L.length cap c 0) := by
  have HS := Lib.hid (take_boxes h (.int .i64 x.1) (.string ⟨x.2.1.toArray⟩) (.int .i64 x.2.2.1) (.int .i64 x.2.2.2))
  have HGL := Lib.hid (fun V hV => goes_live (HS.out V hV).2.1.rd)
  have HN := Lib.hid (fun V hV => next_any (HS.out V hV).2.1)
  have he := fun V hV => ends_any (HS.out V hV).2.1
  rw [decide_eq_false (by omega)] at he
  have HE := Lib.hid he
  clear he
  have hq := fun W => neq_words (nextR L c) x W
  rw [decide_eq_false hx, Bool.not_false] at hq
  obtain ⟨y, hy⟩ : ∃ y, nextR L c = y := ⟨_, rfl⟩
  rw [hy] at hq hx
  simp only [hy] at HN
  unfold wdV at hq HN ⊢
  obtain ⟨tx, htx⟩ : ∃ t : ByteArray, ⟨x.2.1.toArray⟩ = t := ⟨_, rfl⟩
  obtain ⟨ty, hty⟩ : ∃ t : ByteArray, ⟨y.2.1.toArray⟩ = t := ⟨_, rfl⟩
  simp only [htx, hty] at HS HGL HE HN hq ⊢
  obtain ⟨x0, _, x2, x3⟩ := x
  obtain ⟨y0, _, y2, y3⟩ := y
  simp only at HS HGL HE HN hq ⊢
  obtain ⟨n, hn⟩ : ∃ n, L.length = n := ⟨_, rfl⟩
  rw [hn] at hc ⊢
  have hg : ¬ (n : Int) ≤ c := by omega
  have hg2 : decide ((n : Int) ≤ c) = false := by simp; omega
  have hg3 : decide (n ≤ c) = false := by simp; omega
  have HV := Lib.hid (fun (V : World) (hV : Below (w.alloc (.cells #[.int .i64 x0, .string tx, .int .i64 x2, .int .i64 x3] 74)).heap.size (w.alloc (.cells #[.int .i64 x0, .string tx, .int .i64 x2, .int .i64 x3] 74)) V) => (by
    obtain ⟨⟨_, a0, a1, a2, a3⟩, k, _⟩ := HS.out V hV
    obtain ⟨d0, d1, _⟩ := three_cells k.rd
    rw [hn] at d0
    exact ⟨d0, d1, a0, a1, a2, a3⟩ : V.cell? ⟨b, 0, none⟩ = some (.slice ao n cap) ∧ V.cell? ⟨b, 1, none⟩ = some (.int .i64 c) ∧ V.cell? ⟨w.heap.size, 0, none⟩ = some (.int .i64 x0) ∧ V.cell? ⟨w.heap.size, 1, none⟩ = some (.string tx) ∧ V.cell? ⟨w.heap.size, 2, none⟩ = some (.int .i64 x2) ∧ V.cell? ⟨w.heap.size, 3, none⟩ = some (.int .i64 x3)))
  have HRD := Lib.hid (fun (V : World) (hV : Below (w.alloc (.cells #[.int .i64 x0, .string tx, .int .i64 x2, .int .i64 x3] 74)).heap.size (w.alloc (.cells #[.int .i64 x0, .string tx, .int .i64 x2, .int .i64 x3] 74)) V) => (by
    have k := (HS.out V hV).2.1.rd
    rw [hn] at k
    exact ⟨k, (HS.out V hV).2.2⟩ : V.heap[b]? = some (.cells (rdC ao n cap c 0) 115 (0, 0)) ∧ Below w.heap.size w V))
  clear h hx hy htx hty hn hc HS
  have HB0 := Lib.hid ((Below.refl (w.alloc (.cells #[.int .i64 x0, .string tx, .int .i64 x2, .int .i64 x3] 74)).heap.size (w.alloc (.cells #[.int .i64 x0, .string tx, .int .i64 x2, .int .i64 x3] 74))).drew)
  have s0 := HV.out _ HB0.out
  go_enter Tryd.func69, Tryd.ntmps69
  go_wp2_with fail
  go_region_held3 (fun V => V.cell? ⟨b, 0, none⟩ = some (.slice ao n cap) ∧ V.cell? ⟨b, 1, none⟩ = some (.int .i64 c) ∧ V.cell? ⟨w.heap.size, 0, none⟩ = some (.int .i64 x0) ∧ V.cell? ⟨w.heap.size, 1, none⟩ = some (.string tx) ∧ V.cell? ⟨w.heap.size, 2, none⟩ = some (.int .i64 x2) ∧ V.cell? ⟨w.heap.size, 3, none⟩ = some (.int .i64 x3))
    (first | exact s0 | exact se | exact s1)
    (first
      | (go_at_call 76
         first
         | (with_reducible refine (HGL.out _ HB0.out).mono ?_; rintro r V1 ⟨rfl, rfl⟩)
         | (with_reducible refine (HGL.out _ HV1.out).mono ?_; rintro r V1 ⟨rfl, rfl⟩))
      | (go_at_call 77
         with_reducible refine (HE.out _ HB0.out).mono ?_
         rintro r V0 ⟨rfl, ne, hwe⟩
         have hbe := below_drewN HB0.out ne
         rw [← hwe] at hbe
         have HBE := Lib.hid hbe
         have se := HV.out _ HBE.out
         clear hwe hbe)
      | (go_at_call 79
         with_reducible refine (HN.out _ HBE.out).mono ?_
         rintro r V1 ⟨rfl, hb⟩
         have HV1 := Lib.hid (HBE.out.trans (hb.mono HBE.out.size))
         have s1 := HV.out _ HV1.out
         clear hb))
  clear s0 se s1 hq
  go_wp2
  go_ret
  exact ⟨rfl, (HRD.out _ HV1.out).1, turned_below (HRD.out _ HV1.out).2 _⟩
theorem turned_box {w V w' : World} {b : Nat} {X : Obj} (hV : V = w.alloc X) (h : Turned [b] V w') : Turned [b] w w' := by
  subst hV
  exact ((Turned.refl [b] w).alloc X).trans h (Newer.refl _ _)
theorem need_yes {w : World} {b : Nat} {ao : Option Addr} {bw off cap : Nat} {L : List Wd} {c : Nat} (h : RdI w b ao bw off cap L c 0) (hc : c < L.length) {x : Wd} (hx : nextR L c = x) :
    Calls Tryd.prog 68 #[.pointer (some ⟨b, 0, none⟩), wdV x] w (StepP (.tuple #[]) w b ao L.length cap (c + 1) 0) := by
  have ht := take_yes (h.below ((Below.refl _ w).alloc (Nat.le_refl _) (.cells #[.int .i64 x.1, .string ⟨x.2.1.toArray⟩, .int .i64 x.2.2.1, .int .i64 x.2.2.2] 74))) hc hx
  unfold wdV at ht ⊢
  obtain ⟨tx, htx⟩ : ∃ t : ByteArray, ⟨x.2.1.toArray⟩ = t := ⟨_, rfl⟩
  simp only [htx] at ht ⊢
  obtain ⟨x0, _, x2, x3⟩ := x
  simp only at ht ⊢
  have HT := Lib.hid ht
  clear h hx htx ht
  go_enter Tryd.func68, Tryd.ntmps68
  go_wp2_with fail
  with_reducible refine HT.out.mono ?_
  rintro r w1 ⟨rfl, hr, ht⟩
  have HR := Lib.hid hr
  have HU := Lib.hid (turned_box rfl ht)
  clear hr ht
  go_wp2
  go_end0
  exact ⟨rfl, HR.out, HU.out⟩
/-- The error that stays. -/
def failE (e k : Int) : Int := if e = 0 then k else e
theorem fail_any {w : World} {b : Nat} {ao : Option Addr} {n cap c : Nat} {e : Int} (h : w.heap[b]? = some (.cells (rdC ao n cap c e) 115 (0, 0))) (k : Int) :
    Calls Tryd.prog 80 #[.pointer (some ⟨b, 0, none⟩), .int .i64 k] w (StepP (.tuple #[]) w b ao n cap c (failE e k)) := by
  unfold failE
  by_cases he : e = 0
  · subst he
    rw [if_pos rfl]
    exact fail_live h k
  · rw [if_neg he]
    exact fail_dead he h k
theorem take_fail {w : World} {b : Nat} {ao : Option Addr} {bw off cap : Nat} {L : List Wd} {c : Nat} {e : Int} (h : RdI w b ao bw off cap L c e) {x : Wd} (hx : e ≠ 0 ∨ nextR L c ≠ x) :
    Calls Tryd.prog 69 #[.pointer (some ⟨b, 0, none⟩), wdV x] w (StepP (.bool false) w b ao L.length cap c e) := by
  by_cases he : e = 0
  · subst he
    by_cases hc : c < L.length
    · exact take_no h hc (by simpa using hx)
    · exact taken_end h (by omega) x
  · exact take_dead h he x
theorem need_no {w : World} {b : Nat} {ao : Option Addr} {bw off cap : Nat} {L : List Wd} {c : Nat} {e : Int} (h : RdI w b ao bw off cap L c e) {x : Wd} (hx : e ≠ 0 ∨ nextR L c ≠ x) :
    Calls Tryd.prog 68 #[.pointer (some ⟨b, 0, none⟩), wdV x] w (StepP (.tuple #[]) w b ao L.length cap c (failE e 5)) := by
  have ht := take_fail (h.below ((Below.refl _ w).alloc (Nat.le_refl _) (.cells #[.int .i64 x.1, .string ⟨x.2.1.toArray⟩, .int .i64 x.2.2.1, .int .i64 x.2.2.2] 74))) hx
  unfold wdV at ht ⊢
  obtain ⟨tx, htx⟩ : ∃ t : ByteArray, ⟨x.2.1.toArray⟩ = t := ⟨_, rfl⟩
  simp only [htx] at ht ⊢
  obtain ⟨x0, _, x2, x3⟩ := x
  simp only at ht ⊢
  have HT := Lib.hid ht
  clear h hx htx ht
  go_enter Tryd.func68, Tryd.ntmps68
  go_wp2_with fail
  with_reducible refine HT.out.mono ?_
  rintro r w1 ⟨rfl, hr, ht⟩
  have HF := Lib.hid (fail_any hr 5)
  have HU := Lib.hid (turned_box rfl ht)
  clear hr ht
  go_wp2_with fail
  with_reducible refine HF.out.mono ?_
  rintro r w2 ⟨rfl, hr, ht⟩
  have HR := Lib.hid hr
  have HU2 := Lib.hid (HU.out.trans ht (Newer.refl _ _))
  clear hr ht
  go_wp2
  go_end0
  exact ⟨rfl, HR.out, HU2.out⟩
end Go.Proofs.YtmcfjlkjijaflaaDoor
