/-
  The program's reader: prog.
-/
import Derived.Test.YtmcfjlkjijaflaaDoorRdOps
namespace Go.Proofs.YtmcfjlkjijaflaaDoor
open Go.RowKit

set_option maxRecDepth 100000 in
theorem ops_dead {w : World} {b : Nat} {ao : Option Addr} {n cap c : Nat} {e : Int} (h : w.heap[b]? = some (.cells (rdC ao n cap c e) 115 (0, 0))) (he : e ≠ 0) :
    Calls Tryd.prog 70 #[.pointer (some ⟨b, 0, none⟩)] w (StepP (.slice none 0 0) w b ao n cap c e) := by
  have HFL := Lib.hid (fail_dead he h 4)
  have HGD := Lib.hid (goes_dead he h)
  clear h he
  go_enter Tryd.func70, Tryd.ntmps70
  go_wp2_with fail
  go_loopw [3] (fun l' wr => l' = .slice none 0 0 ∧ wr = w) (fun l' _ => lenOf l')
  case atStart => exact ⟨rfl, rfl⟩
  case round =>
    obtain ⟨rfl, rfl⟩ := hrel
    go_wp2_with fail
    with_reducible refine HGD.out.mono ?_
    rintro r w ⟨rfl, rfl⟩
    go_wp2_with fail
    with_reducible refine HFL.out.mono ?_
    rintro r w3 ⟨rfl, hr, ht⟩
    have HR := Lib.hid hr
    have HT := Lib.hid ht
    clear hr ht
    go_wp2
    go_ret
    exact ⟨rfl, HR.out, HT.out⟩
/-- What ops comes to, live or not. -/
def OpsQ (L : List Wd) (c : Nat) (e : Int) (ops : List Opn) (c' : Nat) (e' : Int) : Prop :=
  (e ≠ 0 ∧ ops = [] ∧ c' = c ∧ e' = e) ∨ (e = 0 ∧ ((e' = 0 ∧ opsR L 13 c [] = .ok (ops, c' + 1) ∧ nextR L c' = (3, [125], 0, 0)) ∨ (e' ≠ 0 ∧ opsR L 13 c [] = .error (c', e'))))
theorem ops_both {w : World} {b : Nat} {ao : Option Addr} {bw off cap : Nat} {L : List Wd} {c : Nat} {e : Int} (h : RdI w b ao bw off cap L c e) (hL : Clean L) :
    Calls Tryd.prog 70 #[.pointer (some ⟨b, 0, none⟩)] w fun r w' => ∃ (v : Value) (ops : List Opn) (c' : Nat) (e' : Int), r = .returned v ∧ w'.heap[b]? = some (.cells (rdC ao L.length cap c' e') 115 (0, 0)) ∧ Turned [b] w w' ∧ ORow w.heap.size w' v ops ∧ c' ≤ L.length ∧ OpsQ L c e ops c' e' := by
  by_cases he : e = 0
  · subst he
    refine (ops_any h hL).mono ?_
    rintro r w' ⟨v, ops, c', e', h1, h2, h3, h4, h5, h6⟩
    exact ⟨v, ops, c', e', h1, h2, h3, h4, h5, .inr ⟨rfl, h6⟩⟩
  · refine (ops_dead h.rd he).mono ?_
    rintro r w' ⟨h1, h2, h3⟩
    exact ⟨_, [], c, e, h1, h2, h3, World.ownsRow_nil _ _ _ _, h.le, .inl ⟨he, rfl, rfl, rfl⟩⟩
def tkQ (L : List Wd) (c : Nat) (e : Int) (x : Wd) : Bool × Nat × Int := if e = 0 ∧ nextR L c = x then (true, c + 1, 0) else (false, c, e)
theorem tkQ_le {L : List Wd} {c : Nat} {e : Int} {x : Wd} (h : c ≤ L.length) (hx : x.1 ≠ 0) : (tkQ L c e x).2.1 ≤ L.length := by
  unfold tkQ
  split
  · next hh =>
    have := next_lt (L := L) (c := c) (by rw [hh.2]; exact hx)
    exact this
  · exact h
theorem take_any {w : World} {b : Nat} {ao : Option Addr} {bw off cap : Nat} {L : List Wd} {c : Nat} {e : Int} (h : RdI w b ao bw off cap L c e) (x : Wd) (hx0 : x.1 ≠ 0 := by simp) :
    Calls Tryd.prog 69 #[.pointer (some ⟨b, 0, none⟩), wdV x] w (StepP (.bool (tkQ L c e x).1) w b ao L.length cap (tkQ L c e x).2.1 (tkQ L c e x).2.2) := by
  unfold tkQ
  by_cases hh : e = 0 ∧ nextR L c = x
  · rw [if_pos hh]
    obtain ⟨rfl, hx⟩ := hh
    exact take_yes h (next_lt (by rw [hx]; exact hx0)) hx
  · rw [if_neg hh]
    exact take_fail h (by
      by_cases he : e = 0
      · exact .inr fun hx => hh ⟨he, hx⟩
      · exact .inl he)
theorem prog_res {fn : Func} {p : Tmp} (hf : fn.results = #[.cell p 24]) {tmps : Array Value} {w : World} {B : Nat} {a b : Value} (hp : tmps.getD p undef = .pointer (some ⟨B, 0, none⟩)) (h : w.heap[B]? = some (.cells #[a, b] 24 (0, 0))) :
    (results fn tmps).run Tryd.prog w = .ok (.agg #[a, b]) w := by
  obtain ⟨h0, h1⟩ := two_cells h
  rw [results_one hf, hp]
  simp [loadVar, go_sem, h0, h1]
/-- The boxes of prog: its answer's, the program's; the reader's. -/
structure PF (w V : World) (b : Nat) (f : Bool) (ov : Value) (rc : Array Value) : Prop where
  res : V.heap[w.heap.size]? = some zeroP
  prg : V.heap[w.heap.size + 1]? = some (.cells #[.bool f, ov] 24 (0, 0))
  rd : V.heap[b]? = some (.cells rc 115 (0, 0))
  tur : Turned [b] w V
  bw : b < w.heap.size
theorem PF.siz {w V : World} {b : Nat} {f : Bool} {ov : Value} {rc : Array Value} (h : PF w V b f ov rc) : w.heap.size + 2 ≤ V.heap.size := lt_of_block h.prg
theorem PF.step {w V V' : World} {b : Nat} {f : Bool} {ov : Value} {rc rc' : Array Value} (h : PF w V b f ov rc) (t : Turned [b] V V') (hr : V'.heap[b]? = some (.cells rc' 115 (0, 0))) : PF w V' b f ov rc' := by
  have h1 := h.bw
  exact ⟨t.same h.res (by simp; omega), t.same h.prg (by simp; omega), hr, h.tur.trans t (Newer.refl _ _), h1⟩
theorem PF.below {w V V' : World} {b : Nat} {f : Bool} {ov : Value} {rc : Array Value} (h : PF w V b f ov rc) (hb : Below V.heap.size V V') : PF w V' b f ov rc :=
  h.step (turned_below hb [b]) ((hb.block _ (lt_of_block h.rd)).trans h.rd)
theorem PF.setF {w V : World} {b : Nat} {f : Bool} {ov : Value} {rc : Array Value} (h : PF w V b f ov rc) (f' : Bool) : PF w (V.setCell ⟨w.heap.size + 1, 0, none⟩ (.bool f')) b f' ov rc := by
  have h1 := h.bw
  refine ⟨(Below.heap_setCell _ _ _ _ (by show w.heap.size ≠ w.heap.size + 1; omega)).trans h.res, ?_, (Below.heap_setCell _ _ _ _ (by show b ≠ w.heap.size + 1; omega)).trans h.rd, h.tur.setCell (.inr (by show w.heap.size ≤ w.heap.size + 1; omega)) _, h1⟩
  rw [heap_setCell_same _ _ _ _ _ _ h.prg]
  rfl
theorem PF.setO {w V : World} {b : Nat} {f : Bool} {ov : Value} {rc : Array Value} (h : PF w V b f ov rc) (ov' : Value) : PF w (V.setCell ⟨w.heap.size + 1, 1, none⟩ ov') b f ov' rc := by
  have h1 := h.bw
  refine ⟨(Below.heap_setCell _ _ _ _ (by show w.heap.size ≠ w.heap.size + 1; omega)).trans h.res, ?_, (Below.heap_setCell _ _ _ _ (by show b ≠ w.heap.size + 1; omega)).trans h.rd, h.tur.setCell (.inr (by show w.heap.size ≤ w.heap.size + 1; omega)) _, h1⟩
  rw [heap_setCell_same _ _ _ _ _ _ h.prg]
  rfl
theorem PF.start {w : World} {b : Nat} {rc : Array Value} (hr : w.heap[b]? = some (.cells rc 115 (0, 0))) : PF w ((w.alloc zeroP).alloc zeroP) b false (.slice none 0 0) rc := by
  have hb := lt_of_block hr
  obtain ⟨h1, h2, h3, _⟩ := start_facts w false
  exact ⟨h1, h2, (h3.block _ hb).trans hr, turned_below h3 [b], hb⟩
theorem PF.fin {w V : World} {b : Nat} {f : Bool} {ov : Value} {rc : Array Value} (h : PF w V b f ov rc) {ops : List Opn} (hrow : ORow (w.heap.size + 2) V ov ops) (x y : Value) :
    ((V.setCell ⟨w.heap.size, 0, none⟩ x).setCell ⟨w.heap.size, 1, none⟩ y).heap[w.heap.size]? = some (.cells #[x, y] 24 (0, 0)) ∧
    ((V.setCell ⟨w.heap.size, 0, none⟩ x).setCell ⟨w.heap.size, 1, none⟩ y).heap[b]? = some (.cells rc 115 (0, 0)) ∧
    Turned [b] w ((V.setCell ⟨w.heap.size, 0, none⟩ x).setCell ⟨w.heap.size, 1, none⟩ y) ∧ ORow w.heap.size ((V.setCell ⟨w.heap.size, 0, none⟩ x).setCell ⟨w.heap.size, 1, none⟩ y) ov ops := by
  have hne : b ≠ w.heap.size := by have := h.bw; omega
  refine ⟨two_stored h.res, ?_, (h.tur.setCell (.inr (Nat.le_refl _)) _).setCell (.inr (Nat.le_refl _)) _, ?_⟩
  · rw [Below.heap_setCell _ _ _ _ hne, Below.heap_setCell _ _ _ _ hne]
    exact h.rd
  · refine row_base (row_same hrow fun k hk hl => ?_) (by omega)
    have hk2 : k ≠ w.heap.size := by omega
    rw [Below.heap_setCell _ _ _ _ hk2, Below.heap_setCell _ _ _ _ hk2]
/-- What prog answers, of the reader at place a. -/
def ProgQ (L : List Wd) (a : Nat) (f : Bool) (ops : List Opn) (c : Nat) (e : Int) : Prop :=
  (e = 0 ∧ parseR L a = ((f, ops), (c : Int), 0)) ∨ (e ≠ 0 ∧ parseR L a = ((false, []), (c : Int), e))
theorem prog_plain {L : List Wd} (hL : Clean L) {a : Nat} (ha : a ≤ L.length) {c1 : Nat} {e1 : Int} (h1 : needQ L a 0 (1, progB, 0, 0) = (c1, e1)) {f : Bool} {c2 : Nat} {e2 : Int} (h2 : tkQ L c1 e1 (1, foreverB, 0, 0) = (f, c2, e2))
    {c3 : Nat} {e3 : Int} (h3 : needQ L c2 e2 (3, [123], 0, 0) = (c3, e3)) {ops : List Opn} {c4 : Nat} {e4 : Int} (h4 : OpsQ L c3 e3 ops c4 e4) {c5 : Nat} {e5 : Int} (h5 : needQ L c4 e4 (3, [125], 0, 0) = (c5, e5)) : ProgQ L a f ops c5 e5 := by
  have dead : ∀ {c : Nat} {e : Int}, e ≠ 0 → c3 = c → e3 = e → c5 = c ∧ e5 = e := by
    intro c e he hc hee
    subst hc hee
    rcases h4 with ⟨_, _, rfl, rfl⟩ | ⟨h0, _⟩
    · rw [need_dead he] at h5
      simp only [Prod.mk.injEq] at h5
      exact ⟨h5.1.symm, h5.2.symm⟩
    · exact absurd h0 he
  rw [need_live] at h1
  cases hp : isR L a 1 progB with
  | false =>
    have hp2 := hp
    rw [is_next hL (.inl rfl), decide_eq_false_iff_not] at hp2
    rw [if_neg hp2] at h1
    simp only [Prod.mk.injEq] at h1
    obtain ⟨rfl, rfl⟩ := h1
    unfold tkQ at h2
    rw [if_neg (fun h => by have := h.1; omega)] at h2
    simp only [Prod.mk.injEq] at h2
    obtain ⟨rfl, rfl, rfl⟩ := h2
    rw [need_dead (by decide)] at h3
    simp only [Prod.mk.injEq] at h3
    obtain ⟨q1, q2⟩ := dead (by decide) h3.1.symm h3.2.symm
    subst q1 q2
    exact .inr ⟨by decide, parse_prog ha hp⟩
  | true =>
    have hp2 := hp
    rw [is_next hL (.inl rfl), decide_eq_true_eq] at hp2
    rw [if_pos hp2] at h1
    simp only [Prod.mk.injEq] at h1
    obtain ⟨rfl, rfl⟩ := h1
    have ho : openR L (a + 1) = (f, c2) ∧ e2 = 0 := by
      unfold openR
      rw [is_next hL (.inl rfl)]
      unfold tkQ at h2
      by_cases hf : nextR L (a + 1) = (1, foreverB, 0, 0)
      · rw [if_pos ⟨rfl, hf⟩] at h2
        simp only [Prod.mk.injEq] at h2
        obtain ⟨rfl, rfl, rfl⟩ := h2
        rw [decide_eq_true hf]
        exact ⟨rfl, rfl⟩
      · rw [if_neg (fun h => hf h.2)] at h2
        simp only [Prod.mk.injEq] at h2
        obtain ⟨rfl, rfl, rfl⟩ := h2
        rw [decide_eq_false hf]
        exact ⟨rfl, rfl⟩
    obtain ⟨ho, rfl⟩ := ho
    rw [need_live] at h3
    cases hb : isR L c2 3 [123] with
    | false =>
      have hb2 := hb
      rw [is_next hL (.inr rfl), decide_eq_false_iff_not] at hb2
      rw [if_neg hb2] at h3
      simp only [Prod.mk.injEq] at h3
      obtain ⟨q1, q2⟩ := dead (by decide) h3.1.symm h3.2.symm
      subst q1 q2
      exact .inr ⟨by decide, parse_open ha hp ho hb⟩
    | true =>
      have hb2 := hb
      rw [is_next hL (.inr rfl), decide_eq_true_eq] at hb2
      rw [if_pos hb2] at h3
      simp only [Prod.mk.injEq] at h3
      obtain ⟨rfl, rfl⟩ := h3
      have hP := parse_ops ha hp ho hb
      rcases h4 with ⟨h0, _⟩ | ⟨_, ⟨rfl, hA, hn⟩ | ⟨h4n, hA⟩⟩
      · exact absurd rfl h0
      · rw [need_live, if_pos hn] at h5
        simp only [Prod.mk.injEq] at h5
        obtain ⟨rfl, rfl⟩ := h5
        refine .inl ⟨rfl, ?_⟩
        rw [hP, hA]
        rfl
      · rw [need_dead h4n] at h5
        simp only [Prod.mk.injEq] at h5
        obtain ⟨rfl, rfl⟩ := h5
        refine .inr ⟨h4n, ?_⟩
        rw [hP, hA]
        rfl
end Go.Proofs.YtmcfjlkjijaflaaDoor
