/-
  The document's reader of setups: is, need, long.
  The document's reader of setups: need, long, field.
  Programs that are parsed, plainly: the place that is told is one of the words', the ops are small.
-/
import Derived.Test.YtmcfjlkjijaflaaGreatDoorGAB
import Derived.Test.YtmcfjlkjijaflaaGreatDoorGAE
import Derived.Deep.QuietTactic
import Derived.BigQuiet

/- The document's reader of setups: is, need, long. -/
namespace Go.Proofs.YtmcfjlkjijaflaaGreatDoor
open Go.RowKit

abbrev rsC (ao : Option Addr) (n cap : Nat) (c : Nat) (e : Int) : Array Value := #[.slice ao n cap, .int .i64 c, .int .i64 e]
/-- A reader in memory, and its words. -/
structure RsI (w : World) (b : Nat) (ao : Option Addr) (bw off cap : Nat) (L : List Wd) (s : Rd) : Prop where
  rd : w.heap[b]? = some (.cells (rsC ao L.length cap s.1 s.2) 83 (0, 0))
  ws : WArg w ao bw off L
  ne : 0 < L.length → bw ≠ b
  le : s.1 ≤ L.length
  len : L.length ≤ 100000
theorem WArg.kept {w w' : World} {ao : Option Addr} {b off : Nat} {L : List Wd} (h : WArg w ao b off L) (hs : 0 < L.length → w'.heap[b]? = w.heap[b]?) : WArg w' ao b off L := by
  have hlt : 0 < L.length → b < w'.heap.size := fun h0 => by
    have h1 := hs h0
    rw [Array.getElem?_eq_getElem (h.at_ h0).2] at h1
    exact lt_of_block h1
  refine ⟨fun h0 => ⟨(h.at_ h0).1, hlt h0⟩, fun i hi => ?_⟩
  obtain ⟨h0, h1, h2, h3⟩ := h.cells i hi
  have e : w'.heap[b]? = w.heap[b]? := hs (by omega)
  have ec : ∀ o, w'.cell? ⟨b, o, none⟩ = w.cell? ⟨b, o, none⟩ := fun o => by simp only [World.cell?, e]
  exact ⟨(ec _).trans h0, (ec _).trans h1, (ec _).trans h2, (ec _).trans h3⟩
theorem RsI.turned {w w' : World} {b : Nat} {ao : Option Addr} {bw off cap : Nat} {L : List Wd} {s s' : Rd} (h : RsI w b ao bw off cap L s) (t : Turned [b] w w')
    (hr : w'.heap[b]? = some (.cells (rsC ao L.length cap s'.1 s'.2) 83 (0, 0))) (hc : s'.1 ≤ L.length) : RsI w' b ao bw off cap L s' :=
  ⟨hr, h.ws.kept (fun h0 => t.block bw (h.ws.at_ h0).2 (by simpa using h.ne h0)), h.ne, hc, h.len⟩
theorem RsI.below {w w' : World} {b : Nat} {ao : Option Addr} {bw off cap : Nat} {L : List Wd} {s : Rd} (h : RsI w b ao bw off cap L s) (t : Below w.heap.size w w') : RsI w' b ao bw off cap L s :=
  ⟨(t.block _ (lt_of_block h.rd)).trans h.rd, h.ws.below t, h.ne, h.le, h.len⟩
theorem RsI.drewN {w : World} {b : Nat} {ao : Option Addr} {bw off cap : Nat} {L : List Wd} {s : Rd} (h : RsI w b ao bw off cap L s) (n : Nat) : RsI (w.drewN n) b ao bw off cap L s :=
  h.below (below_drewN (Below.refl _ w) n)
theorem RsI.setAt {w : World} {b : Nat} {ao : Option Addr} {bw off cap : Nat} {L : List Wd} {s : Rd} (h : RsI w b ao bw off cap L s) {c' : Nat} (hc : c' ≤ L.length) :
    RsI (w.setCell ⟨b, 1, none⟩ (.int .i64 (c' : Nat))) b ao bw off cap L (c', s.2) ∧ Turned [b] w (w.setCell ⟨b, 1, none⟩ (.int .i64 (c' : Nat))) := by
  have ht : Turned [b] w (w.setCell ⟨b, 1, none⟩ (.int .i64 (c' : Nat))) := (Turned.refl [b] w).setCell (.inl (by simp)) _
  refine ⟨h.turned ht ?_ hc, ht⟩
  rw [heap_setCell_same _ _ _ _ _ _ h.rd]
  rfl
theorem RsI.setBad {w : World} {b : Nat} {ao : Option Addr} {bw off cap : Nat} {L : List Wd} {s : Rd} (h : RsI w b ao bw off cap L s) (e' : Int) :
    RsI (w.setCell ⟨b, 2, none⟩ (.int .i64 e')) b ao bw off cap L (s.1, e') ∧ Turned [b] w (w.setCell ⟨b, 2, none⟩ (.int .i64 e')) := by
  have ht : Turned [b] w (w.setCell ⟨b, 2, none⟩ (.int .i64 e')) := (Turned.refl [b] w).setCell (.inl (by simp)) _
  refine ⟨h.turned ht ?_ h.le, ht⟩
  rw [heap_setCell_same _ _ _ _ _ _ h.rd]
  rfl
set_option maxRecDepth 100000 in
set_option maxHeartbeats 3200000 in
theorem rsis_any {w : World} {b : Nat} {ao : Option Addr} {bw off cap : Nat} {L : List Wd} {s : Rd} (h : RsI w b ao bw off cap L s) (k : Int) (t : ByteArray) :
    Calls Tryz.prog 43 #[.pointer (some ⟨b, 0, none⟩), .int .i64 k, .string t] w fun r w' => r = .returned (.bool (isS L s k t.data.toList)) ∧ ∃ n, w' = w.drewN n := by
  obtain ⟨c, e⟩ := s
  obtain ⟨d0, d1, d2⟩ := op_cells h.rd
  have hbl := lt_of_block h.rd
  have hle := h.le
  have hm := h.len
  have HW := Lib.hid h.ws
  obtain ⟨n, hn⟩ : ∃ n, L.length = n := ⟨_, rfl⟩
  have HN := Lib.hid hn
  simp only at d0 d1 d2 hle
  rw [hn] at d0 hle hm
  by_cases he : e = 0
  · subst he
    by_cases hlt : c < n
    · have hcL : c < L.length := by rw [HN.out]; exact hlt
      obtain ⟨rfl, hbw⟩ := HW.out.at_ (by omega)
      obtain ⟨x0, x1, x2, x3⟩ := HW.out.cells c hcL
      obtain ⟨⟨k1, t1, m, p⟩, hx⟩ : ∃ x, L[c] = x := ⟨_, rfl⟩
      have e1 : isS L (c, 0) k t.data.toList = (decide (k1 = k) && decide (t1 = t.data.toList)) := by
        unfold isS isR
        rw [List.getElem?_eq_getElem hcL, hx]
        simp
      rw [e1]
      rw [hx] at x0 x1
      simp only at x0 x1
      have c0 : (0 : Int) ≤ c := by omega
      have c1 : (c : Int) < n := by omega
      clear h hx e1 x2 x3 hn
      by_cases hk : k1 = k
      · subst hk
        have kk : (k1 == k1) = true := by simp
        by_cases ht : t1 = t.data.toList
        · have ht2 : (⟨t1.toArray⟩ : ByteArray) = t := by rw [ht]
          rw [ht2] at x1
          have tt : (t.toList == t.toList) = true := by simp
          go_enter Tryz.func43, Tryz.ntmps43
          go_wp2_with fail
          go_quiet (fail)
          go_wp2
          go_ret
          exact ⟨by simp [ht], _, rfl⟩
        · have tt : ((⟨t1.toArray⟩ : ByteArray).toList == t.toList) = false := by
            rw [Lib.toList_data, Lib.toList_data]
            simpa using ht
          obtain ⟨tx, htx⟩ : ∃ tx : ByteArray, ⟨t1.toArray⟩ = tx := ⟨_, rfl⟩
          rw [htx] at x1 tt
          clear htx
          go_enter Tryz.func43, Tryz.ntmps43
          go_wp2_with fail
          go_quiet (fail)
          go_wp2
          go_ret
          exact ⟨by simp [ht], _, rfl⟩
      · have kk : (k1 == k) = false := by simpa using hk
        go_enter Tryz.func43, Tryz.ntmps43
        go_wp2_with fail
        go_quiet (fail)
        go_wp2
        go_ret
        exact ⟨by simp [hk], _, rfl⟩
    · have e1 : isS L (c, 0) k t.data.toList = false := by
        unfold isS isR
        rw [List.getElem?_eq_none (by rw [HN.out]; omega)]
        simp
      rw [e1]
      have c1 : ¬ (c : Int) < n := by omega
      clear h e1 hn
      go_enter Tryz.func43, Tryz.ntmps43
      go_wp2_with fail
      go_quiet (fail)
      go_wp2
      go_ret
      exact ⟨rfl, _, rfl⟩
  · have e1 : isS L (c, e) k t.data.toList = false := by
      unfold isS
      simp [he]
    rw [e1]
    have ee : (e == 0) = false := by simpa using he
    clear h e1 hn
    go_enter Tryz.func43, Tryz.ntmps43
    go_wp2_with fail
    go_quiet (fail)
    go_wp2
    go_ret
    exact ⟨rfl, _, rfl⟩
end Go.Proofs.YtmcfjlkjijaflaaGreatDoor

/- The document's reader of setups: need, long, field. -/
namespace Go.Proofs.YtmcfjlkjijaflaaGreatDoor
open Go.RowKit

/-- What a call that moves a reader leaves. -/
def RsP (b : Nat) (ao : Option Addr) (bw off cap : Nat) (L : List Wd) (s' : Rd) (w w' : World) : Prop := RsI w' b ao bw off cap L s' ∧ Turned [b] w w'
theorem is_room {L : List Wd} {s : Rd} {k : Int} {t : List By} (hi : isS L s k t = true) : s.1 < L.length ∧ s.2 = 0 := by
  unfold isS isR at hi
  simp only [Bool.and_eq_true, decide_eq_true_eq] at hi
  obtain ⟨h0, h1⟩ := hi
  refine ⟨?_, h0⟩
  by_cases hc : s.1 < L.length
  · exact hc
  · rw [List.getElem?_eq_none (by omega)] at h1
    cases h1
set_option maxRecDepth 100000 in
set_option maxHeartbeats 3200000 in
theorem rsneed_any {w : World} {b : Nat} {ao : Option Addr} {bw off cap : Nat} {L : List Wd} {s : Rd} (h : RsI w b ao bw off cap L s) (k : Int) (t : ByteArray) :
    Calls Tryz.prog 42 #[.pointer (some ⟨b, 0, none⟩), .int .i64 k, .string t] w fun r w' => r = .returned (.tuple #[]) ∧ RsP b ao bw off cap L (needS L s k t.data.toList) w w' := by
  have hi := rsis_any h k t
  have HI := Lib.hid hi
  have HR := Lib.hid h
  have hm := h.len
  cases hq : isS L s k t.data.toList with
  | true =>
    obtain ⟨hc, he⟩ := is_room hq
    have e1 : needS L s k t.data.toList = (s.1 + 1, s.2) := by unfold needS; rw [if_pos hq]
    rw [e1]
    rw [hq] at HI
    obtain ⟨c, e⟩ := s
    simp only at hc he ⊢
    have cw : IntKind.i64.wrap ((c : Int) + 1) = ((c + 1 : Nat) : Int) := by rw [IntKind.wrap_i64]; omega
    clear h hi hq e1
    go_enter Tryz.func42, Tryz.ntmps42
    go_wp2_with fail
    with_reducible refine HI.out.mono ?_
    rintro r w1 ⟨rfl, n1, rfl⟩
    have HR1 := Lib.hid (HR.out.drewN n1)
    obtain ⟨d0, d1, d2⟩ := op_cells HR1.out.rd
    have f1 := frozen_of_row _ _ 1 _ _ HR1.out.rd
    go_wp2
    have hs := HR1.out.setAt (c' := c + 1) (by omega)
    go_end0
    exact ⟨rfl, hs.1, (Turned.refl [b] w).drewN n1 |>.trans hs.2 (fun _ h => .inl h)⟩
  | false =>
    rw [hq] at HI
    by_cases he : s.2 = 0
    · have e1 : needS L s k t.data.toList = (s.1, 5) := by unfold needS; rw [if_neg (by rw [hq]; decide), if_pos he]
      rw [e1]
      obtain ⟨c, e⟩ := s
      simp only at he ⊢
      subst he
      clear h hi hq e1
      go_enter Tryz.func42, Tryz.ntmps42
      go_wp2_with fail
      with_reducible refine HI.out.mono ?_
      rintro r w1 ⟨rfl, n1, rfl⟩
      have HR1 := Lib.hid (HR.out.drewN n1)
      obtain ⟨d0, d1, d2⟩ := op_cells HR1.out.rd
      have f2 := frozen_of_row _ _ 2 _ _ HR1.out.rd
      go_wp2
      have hs := HR1.out.setBad 5
      go_end0
      exact ⟨rfl, hs.1, (Turned.refl [b] w).drewN n1 |>.trans hs.2 (fun _ h => .inl h)⟩
    · have e1 : needS L s k t.data.toList = s := by unfold needS; rw [if_neg (by rw [hq]; decide), if_neg he]
      rw [e1]
      obtain ⟨c, e⟩ := s
      simp only at he ⊢
      have ee : (e == 0) = false := by simpa using he
      clear h hi hq e1
      go_enter Tryz.func42, Tryz.ntmps42
      go_wp2_with fail
      with_reducible refine HI.out.mono ?_
      rintro r w1 ⟨rfl, n1, rfl⟩
      have HR1 := Lib.hid (HR.out.drewN n1)
      obtain ⟨d0, d1, d2⟩ := op_cells HR1.out.rd
      go_wp2
      go_end0
      exact ⟨rfl, HR1.out, (Turned.refl [b] w).drewN n1⟩
end Go.Proofs.YtmcfjlkjijaflaaGreatDoor

/- Programs that are parsed, plainly: the place that is told is one of the words', the ops are small. -/
namespace Go.Proofs.YtmcfjlkjijaflaaGreatDoor

def placeE {α : Type} (L : List Wd) : Except Bad (α × Nat) → Prop
  | .error e => e.1 ≤ L.length
  | .ok x => x.2 ≤ L.length
theorem arg_place {L : List Wd} {a : Nat} (ha : a ≤ L.length) (lo hi : Int) : placeE L (argR L a lo hi) := by
  unfold argR
  cases hx : L[a]? with
  | none => exact ha
  | some x =>
    have hlt := (List.getElem?_eq_some_iff.1 hx).1
    simp only
    split
    · split
      · exact ha
      · exact hlt
    · exact ha
theorem op_place {L : List Wd} {a : Nat} (ha : a ≤ L.length) (k : Int) : placeE L (opR L a k) := by
  unfold opR
  have h1 : placeE L (arg1R L a k) := by
    unfold arg1R
    split
    · exact ha
    · exact arg_place ha _ _
  cases e1 : arg1R L a k with
  | error e =>
    rw [e1] at h1
    exact h1
  | ok x =>
    rw [e1] at h1
    obtain ⟨x, a1⟩ := x
    simp only
    have h2 : placeE L (arg2R L a1 k) := by
      unfold arg2R
      split
      · exact arg_place h1 _ _
      · exact h1
    cases e2 : arg2R L a1 k with
    | error e =>
      rw [e2] at h2
      exact h2
    | ok y =>
      rw [e2] at h2
      obtain ⟨y, a2⟩ := y
      simp only
      cases e3 : isR L a2 3 [59] with
      | true => exact is_lt e3
      | false => exact h2
theorem kindUp_lt {L : List Wd} {a : Nat} : ∀ n, kindUp L a n ≠ 0 → a < L.length
  | 0, h => absurd rfl h
  | n + 1, h => by
    unfold kindUp at h
    split at h
    · next h1 =>
      exact is_lt (by simpa using h1)
    · exact kindUp_lt n h
theorem ops_place {L : List Wd} : ∀ (n a : Nat) (ops : List Opn), a ≤ L.length → placeE L (opsR L n a ops)
  | 0, a, ops, ha => ha
  | n + 1, a, ops, ha => by
    unfold opsR
    cases e1 : isR L a 3 [125] with
    | true =>
      rw [if_pos rfl]
      split
      · exact ha
      · exact is_lt e1
    | false =>
      rw [if_neg (by simp)]
      split
      · exact ha
      · next hk =>
        split
        · exact ha
        · have hlt : a < L.length := kindUp_lt 11 hk
          have h1 := op_place (L := L) (a := a + 1) hlt (kindR L a)
          cases e2 : opR L (a + 1) (kindR L a) with
          | error e =>
            rw [e2] at h1
            exact h1
          | ok x =>
            rw [e2] at h1
            obtain ⟨o, a2⟩ := x
            exact ops_place n a2 _ h1
theorem parse_place {L : List Wd} {a : Nat} (ha : a ≤ L.length) : ∃ n : Nat, (parseR L a).2.1 = n ∧ n ≤ L.length := by
  cases h1 : isR L a 1 progB with
  | false => exact ⟨a, by rw [parse_prog ha h1], ha⟩
  | true =>
    have hlt := is_lt h1
    obtain ⟨⟨f, a1⟩, ho⟩ : ∃ x, openR L (a + 1) = x := ⟨_, rfl⟩
    have h2 : a1 ≤ L.length := by
      unfold openR at ho
      cases h3 : isR L (a + 1) 1 foreverB with
      | true =>
        rw [h3, if_pos rfl] at ho
        have := is_lt h3
        simp only [Prod.mk.injEq] at ho
        omega
      | false =>
        rw [h3, if_neg (by simp)] at ho
        simp only [Prod.mk.injEq] at ho
        omega
    cases h4 : isR L a1 3 [123] with
    | false => exact ⟨a1, by rw [parse_open ha h1 ho h4], h2⟩
    | true =>
      have h5 := ops_place (L := L) 13 (a1 + 1) [] (is_lt h4)
      rw [parse_ops ha h1 ho h4]
      cases e5 : opsR L 13 (a1 + 1) [] with
      | error e =>
        rw [e5] at h5
        exact ⟨e.1, rfl, h5⟩
      | ok x =>
        rw [e5] at h5
        obtain ⟨ops, d⟩ := x
        exact ⟨d, rfl, h5⟩
theorem parse_none {L : List Wd} {a : Nat} (ha : a ≤ L.length) (h : (parseR L a).2.2 ≠ 0) : (parseR L a).1.2 = [] := by
  cases h1 : isR L a 1 progB with
  | false => rw [parse_prog ha h1]
  | true =>
    obtain ⟨⟨f, a1⟩, ho⟩ : ∃ x, openR L (a + 1) = x := ⟨_, rfl⟩
    cases h4 : isR L a1 3 [123] with
    | false => rw [parse_open ha h1 ho h4]
    | true =>
      rw [parse_ops ha h1 ho h4] at h ⊢
      cases e5 : opsR L 13 (a1 + 1) [] with
      | error e => rfl
      | ok x =>
        rw [e5] at h
        obtain ⟨ops, d⟩ := x
        exact absurd rfl h
theorem op_small {o : Opn} (h : opMay o = true) : small o.1 := by
  simp only [opMay, Bool.and_eq_true] at h
  have h1 := h.1
  unfold small
  by_cases hk : 1 ≤ o.1 ∧ o.1 ≤ 11
  · omega
  · exfalso
    have hn : nameR o.1 = [] := by
      unfold nameR
      by_cases h0 : o.1 = 0
      · rw [h0]
        rfl
      · rw [if_neg (by omega)]
    simp [hn] at h1
theorem parse_small {L : List Wd} {a : Nat} (ha : a ≤ L.length) : (parseR L a).1.2.length ≤ 12 ∧ ∀ o ∈ (parseR L a).1.2, small o.1 := by
  by_cases h : (parseR L a).2.2 = 0
  · have hm := parse_may h
    simp only [mayR, Bool.and_eq_true, decide_eq_true_eq, List.all_eq_true] at hm
    exact ⟨hm.2.1, fun o ho => op_small (hm.2.2 o ho)⟩
  · rw [parse_none ha h]
    exact ⟨by simp, fun o ho => by cases ho⟩
end Go.Proofs.YtmcfjlkjijaflaaGreatDoor
