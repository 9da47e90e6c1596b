/-
  The program's reader: ops.
-/
import Derived.Test.YtmcfjlkjijaflaaDoorRdPlain
import Derived.Test.YtmcfjlkjijaflaaDoorGA
namespace Go.Proofs.YtmcfjlkjijaflaaDoor
open Go.RowKit

def lenOf : Value → Nat
  | .slice _ n _ => n
  | _ => 0
/-- What ops leaves: its row, and the reader. -/
def OpsP (L : List Wd) (A : Except Bad (List Opn × Nat)) (w : World) (b : Nat) (ao : Option Addr) (cap : Nat) (r : Ending) (w' : World) : Prop :=
  ∃ (v : Value) (ops : List Opn) (c : Nat) (e : Int), r = .returned v ∧ w'.heap[b]? = some (.cells (rdC ao L.length cap c e) 115 (0, 0)) ∧ Turned [b] w w' ∧ ORow w.heap.size w' v ops ∧ c ≤ L.length ∧
    ((e = 0 ∧ A = .ok (ops, c + 1) ∧ nextR L c = (3, [125], 0, 0)) ∨ (e ≠ 0 ∧ A = .error (c, e)))
/-- The loop's state. -/
structure OpsW (L : List Wd) (A : Except Bad (List Opn × Nat)) (w wr : World) (b : Nat) (ao : Option Addr) (cap c : Nat) (e : Int) (ops : List Opn) (v : Value) : Prop where
  st : OpsI L A c e ops
  rd : wr.heap[b]? = some (.cells (rdC ao L.length cap c e) 115 (0, 0))
  tur : Turned [b] w wr
  row : ORow w.heap.size wr v ops
  le : c ≤ L.length
  bw : b < w.heap.size
theorem row_turned {w w' : World} {b base : Nat} {e : TypeId} {size : Nat} {v : Value} {n : Nat} {xs : List Value} (h : w.ownsRow base e size v n xs) (t : Turned [b] w w') (hb : b < base) : w'.ownsRow base e size v n xs :=
  row_same h fun k hk hl => t.block k hl (by simp; omega)
theorem OpsW.below {L : List Wd} {A : Except Bad (List Opn × Nat)} {w wr wr' : World} {b : Nat} {ao : Option Addr} {cap c : Nat} {e : Int} {ops : List Opn} {v : Value} (h : OpsW L A w wr b ao cap c e ops v) (hb : Below wr.heap.size wr wr') : OpsW L A w wr' b ao cap c e ops v :=
  ⟨h.st, (hb.block _ (lt_of_block h.rd)).trans h.rd, h.tur.trans (turned_below hb [b]) (Newer.refl _ _), row_below h.row hb, h.le, h.bw⟩
theorem OpsW.push {L : List Wd} {A : Except Bad (List Opn × Nat)} {w wr w1 w4 : World} {b : Nat} {ao : Option Addr} {cap c c' : Nat} {e e' : Int} {ops : List Opn} {v v' : Value} {o : Opn} (h : OpsW L A w wr b ao cap c e ops v)
    (t : Turned [b] wr w1) (hr : w1.heap[b]? = some (.cells (rdC ao L.length cap c' e') 115 (0, 0))) (hst : OpsI L A c' e' (ops ++ [o])) (hle : c' ≤ L.length)
    (hown : w4.ownsRow w.heap.size 39 3 v' (ops.length + 1) (opsC ops ++ opC o)) (hg : w1.grownBy w4 v.ownBlock) : OpsW L A w w4 b ao cap c' e' (ops ++ [o]) v' := by
  have hrow1 := row_turned h.row t h.bw
  have hb : Below w.heap.size w1 w4 := app_below (Below.refl _ _) (Nat.le_trans h.tur.size t.size) (Nat.le_refl _) hrow1 hg
  have t2 := h.tur.trans t (Newer.refl _ _)
  refine ⟨hst, (hb.block _ h.bw).trans hr, ⟨hb.os.trans t2.os, hb.tape.trans t2.tape, hb.output.trans t2.output, Nat.le_trans t2.size hb.size, fun k hk hx => (hb.block k hk).trans (t2.block k hk hx)⟩, ?_, hle, h.bw⟩
  unfold ORow
  rw [opsC_snoc, List.length_append, List.length_singleton]
  exact hown
theorem OpsW.fin {L : List Wd} {A : Except Bad (List Opn × Nat)} {w wr : World} {b : Nat} {ao : Option Addr} {cap c : Nat} {e : Int} {ops : List Opn} {v : Value} (h : OpsW L A w wr b ao cap c e ops v)
    (he : (e = 0 ∧ A = .ok (ops, c + 1) ∧ nextR L c = (3, [125], 0, 0)) ∨ (e ≠ 0 ∧ A = .error (c, e))) : OpsP L A w b ao cap (.returned v) wr :=
  ⟨v, ops, c, e, rfl, h.rd, h.tur, h.row, h.le, he⟩
theorem OpsW.failed {L : List Wd} {A : Except Bad (List Opn × Nat)} {w wr w1 : World} {b : Nat} {ao : Option Addr} {cap c : Nat} {e e' : Int} {ops : List Opn} {v : Value} (h : OpsW L A w wr b ao cap c e ops v)
    (t : Turned [b] wr w1) (hr : w1.heap[b]? = some (.cells (rdC ao L.length cap c e') 115 (0, 0))) (he : e' ≠ 0) (hA : A = .error (c, e')) : OpsP L A w b ao cap (.returned v) w1 :=
  ⟨v, ops, c, e', rfl, hr, h.tur.trans t (Newer.refl _ _), row_turned h.row t h.bw, h.le, .inr ⟨he, hA⟩⟩
theorem OpsI.dead {L : List Wd} {A : Except Bad (List Opn × Nat)} {c : Nat} {e : Int} {ops : List Opn} (h : OpsI L A c e ops) (he : e ≠ 0) : A = .error (c, e) := by
  rcases h with ⟨h0, _⟩ | ⟨_, _, h⟩
  · exact absurd h0 he
  · exact h
theorem OpsI.len {L : List Wd} {A : Except Bad (List Opn × Nat)} {c : Nat} {e : Int} {ops : List Opn} (h : OpsI L A c e ops) : ops.length ≤ 13 ∧ (e = 0 → ops.length ≤ 12) := by
  rcases h with ⟨_, h, _⟩ | ⟨h0, h, _⟩
  · exact ⟨by omega, fun _ => h⟩
  · exact ⟨h, fun e0 => absurd e0 h0⟩
set_option maxRecDepth 100000 in
set_option maxHeartbeats 12800000 in
theorem ops_any {w : World} {b : Nat} {ao : Option Addr} {bw off cap : Nat} {L : List Wd} {c0 : Nat} (h : RdI w b ao bw off cap L c0 0) (hL : Clean L) :
    Calls Tryd.prog 70 #[.pointer (some ⟨b, 0, none⟩)] w (OpsP L (opsR L 13 c0 []) w b ao cap) := by
  obtain ⟨i0, hi0, hz0, hz1, hz2⟩ := info_parts op_info
  have HRT := Lib.hid (fun V c' e' (t : Turned [b] w V) hr hc => h.turned (c' := c') (e' := e') t hr hc)
  have HCL := Lib.hid hL
  have HMK := Lib.hid (fun s W => pmark_any s W)
  have HST : Hid (OpsW L (opsR L 13 c0 []) w w b ao cap c0 0 [] (.slice none 0 0)) := ⟨OpsI.start L c0, h.rd, Turned.refl _ _, World.ownsRow_nil _ _ _ _, h.le, lt_of_block h.rd⟩
  obtain ⟨A, hA⟩ : ∃ A, opsR L 13 c0 [] = A := ⟨_, rfl⟩
  rw [hA] at HST ⊢
  clear hA h hL
  go_enter Tryd.func70, Tryd.ntmps70
  go_wp2_with fail
  go_loopw [3] (fun l' wr => ∃ (c : Nat) (e : Int) (ops : List Opn), Hid (OpsW L A w wr b ao cap c e ops l')) (fun l' _ => 13 - lenOf l')
  case atStart => exact ⟨c0, 0, [], HST⟩
  case round =>
    obtain ⟨c, e, ops, HW⟩ := hrel
    obtain ⟨aov, capv, hv, _⟩ := ownsRow_shape HW.out.row
    subst hv
    obtain ⟨m, hm⟩ : ∃ m, ops.length = m := ⟨_, rfl⟩
    have HM := Lib.hid hm
    obtain ⟨hl13, hl12⟩ := HW.out.st.len
    rw [hm] at HW hl13 hl12 ⊢
    obtain ⟨d0, d1, d2⟩ := three_cells HW.out.rd
    by_cases he : e = 0
    · subst he
      have hl12 := hl12 rfl
      have HRI := Lib.hid (fun V (hb : Below wr.heap.size wr V) => HRT.out V c 0 (HW.out.below hb).tur (HW.out.below hb).rd HW.out.le)
      have HNX := Lib.hid (fun V (hb : Below wr.heap.size wr V) => next_any (HRI.out V hb))
      have HGL := Lib.hid (goes_live HW.out.rd)
      have hq := fun W => neq_words (nextR L c) (3, [125], 0, 0) W
      have hkd := fun W => kindof_any (nextR L c) W
      obtain ⟨y0, ty, y2, hy⟩ := next_form L c
      unfold wdV at hq hkd HNX
      obtain ⟨tb, htb⟩ : ∃ t : ByteArray, ⟨ty.toArray⟩ = t := ⟨_, rfl⟩
      obtain ⟨kq, hkq⟩ : ∃ kq, kindQ (nextR L c) = kq := ⟨_, rfl⟩
      simp only [hkq] at hkd
      simp only [hy, htb] at HNX hkd
      have hq2 : ∀ W, (binOp .neq 74 (.agg #[.int .i64 y0, .string tb, .int .i64 y2, .int .i64 0]) (.agg #[.int .i64 3, .string ⟨#[125]⟩, .int .i64 0, .int .i64 0])).run Tryd.prog W = .ok (.bool (!decide (nextR L c = ((3, [125], 0, 0) : Wd)))) W := fun W => by
        have h := hq W
        simp only [hy, htb] at h
        rw [hy]
        exact h
      have HKD := Lib.hid hkd
      clear hq hkd
      cases hd : decide (nextR L c = ((3, [125], 0, 0) : Wd)) with
      | true =>
        rw [hd] at hq2
        have hA := HW.out.st.last HCL.out (of_decide_eq_true hd)
        have HN := Lib.hid (of_decide_eq_true hd)
        clear hd hy htb hkq hm
        go_wp2_with fail
        with_reducible refine HGL.out.mono ?_
        rintro r wr ⟨rfl, rfl⟩
        go_wp2_with fail
        with_reducible refine (HNX.out _ (Below.refl _ _)).mono ?_
        rintro r w1 ⟨rfl, hb1⟩
        have HB1 := Lib.hid hb1
        clear hb1
        go_wp2_with fail
        with_reducible refine (HMK.out _ _).mono ?_
        rintro r w2 ⟨rfl, hb2⟩
        have HB2 := Lib.hid (HB1.out.trans (hb2.mono HB1.out.size))
        clear hb2 d0 d1 d2
        by_cases h0 : m = 0
        · have hops : ops = [] := List.eq_nil_of_length_eq_zero (HM.out.trans h0)
          rw [if_pos hops] at hA
          subst h0
          have HAA := Lib.hid hA
          have HFL := Lib.hid (fail_live (HW.out.below HB2.out).rd 4)
          clear hA hops
          go_wp2_with fail
          with_reducible refine HFL.out.mono ?_
          rintro r w3 ⟨rfl, hr, ht⟩
          have HFIN := Lib.hid ((HW.out.below HB2.out).failed ht hr (by decide) HAA.out)
          clear hr ht
          go_wp2
          go_ret
          exact HFIN.out
        · have hops : ¬ ops = [] := by
            rintro rfl
            exact h0 HM.out.symm
          rw [if_neg hops] at hA
          have HFIN := Lib.hid ((HW.out.below HB2.out).fin (.inl ⟨rfl, hA, HN.out⟩))
          have h0b : ((m : Int) == 0) = false := by simp; omega
          clear hA hops
          go_wp2
          go_ret
          exact HFIN.out
      | false =>
        rw [hd] at hq2
        have hne := of_decide_eq_false hd
        have hstep := fun e1 (he : e1 = if ops.length = 12 ∧ kindQ (nextR L c) ≠ 0 then (6 : Int) else 0) => HW.out.st.step HCL.out hne he
        rw [HM.out, hkq] at hstep
        have HQL := Lib.hid (fun e1 => opQ_le (L := L) (c := c) (e := e1) HW.out.le)
        have HOP := Lib.hid (fun V e1 (hV : RdI V b ao bw off cap L c e1) => op_any hV HCL.out)
        by_cases h12 : m = 12
        · by_cases hk0 : kq ≠ 0
          · obtain ⟨c', e', o, hoq⟩ : ∃ c' e' o, opQ L c 6 = (o, c', e') := ⟨_, _, _, rfl⟩
            obtain ⟨ok, oa, ob⟩ := o
            have hsx := hstep 6 (by rw [if_pos ⟨h12, hk0⟩])
            have hqx := HQL.out 6
            have hox := fun V hV => HOP.out V 6 hV
            rw [hoq] at hsx hqx
            simp only [hoq] at hox
            unfold opV at hox
            simp only at hsx hqx hox
            have HSX := Lib.hid hsx
            have HQLX := Lib.hid hqx
            have HOPX := Lib.hid hox
            clear hsx hqx hox hoq hstep hne hd hy htb hkq hm
            have kb : (((kq : Nat) : Int) != 0) = true := by simp; omega
            have kb2 : (((kq : Nat) : Int) == 0) = false := by simp; omega
            subst h12
            go_wp2_with fail
            with_reducible refine HGL.out.mono ?_
            rintro r wr ⟨rfl, rfl⟩
            go_wp2_with fail
            with_reducible refine (HNX.out _ (Below.refl _ _)).mono ?_
            rintro r w1 ⟨rfl, hb1⟩
            have HB1 := Lib.hid hb1
            clear hb1
            go_wp2_with fail
            with_reducible refine (HMK.out _ _).mono ?_
            rintro r w2 ⟨rfl, hb2⟩
            have HB2 := Lib.hid (HB1.out.trans (hb2.mono HB1.out.size))
            clear hb2 d0 d1 d2
            go_wp2_with fail
            with_reducible refine (HNX.out _ HB2.out).mono ?_
            rintro r w3 ⟨rfl, hb3⟩
            have HB3 := Lib.hid (HB2.out.trans (hb3.mono HB2.out.size))
            clear hb3
            go_wp2_with fail
            with_reducible refine (HKD.out _).mono ?_
            rintro r w4 ⟨rfl, hb4⟩
            have HB4 := Lib.hid (HB3.out.trans (hb4.mono HB3.out.size))
            clear hb4
            have HFL := Lib.hid (fail_live (HW.out.below HB4.out).rd 6)
            go_wp2_with fail
            with_reducible refine HFL.out.mono ?_
            rintro r w7 ⟨rfl, hr, ht⟩
            have HT7 := Lib.hid ((turned_below HB4.out [b]).trans ht (Newer.refl _ _))
            have HR7 := Lib.hid (HRT.out _ c 6 (HW.out.tur.trans HT7.out (Newer.refl _ _)) hr HW.out.le)
            clear hr ht
            go_wp2_with fail
            with_reducible refine (HOPX.out _ HR7.out).mono ?_
            rintro r w5 ⟨rfl, hr, ht⟩
            have HR5 := Lib.hid hr
            have HT5 := Lib.hid ht
            clear hr ht
            have HT6 := Lib.hid (HT7.out.trans HT5.out (Newer.refl _ _))
            go_wp2_with (at_builtin; refine wpList_append_own _ rfl _ _ 22 rfl w.heap.size 39 i0 (.agg #[.int .i64 0, .int .i64 0, .int .i64 0]) 3 24 Tryd.underlying22 hi0 hz0 hz1 hz2 rfl (by decide) _ _ _ rfl (row_below (row_turned HW.out.row HT6.out HW.out.bw) ((Below.refl _ _).alloc (Nat.le_refl _) _)) ⟨_, 0, none⟩ 1 1 [.int .i64 ok, .int .i64 oa, .int .i64 ob] rfl rfl ?c1 ?c2 ?c3 ?c4 ?c5 ?_)
            case c1 => exact op_new _ _ _ _ _
            case c2 =>
              intro u hu
              simp at hu
              rcases hu with rfl | rfl | rfl <;> rfl
            case c3 => (have := HM.out; unfold maxLen; omega)
            case c4 => (have := HM.out; omega)
            case c5 => exact Nat.le_trans (Nat.le_trans HW.out.tur.size HT6.out.size) (by simp)
            intro v' w6 hown hgrow _
            obtain ⟨ao4, cap4, hv4, _⟩ := ownsRow_shape hown
            subst hv4
            have HP := Lib.hid (OpsW.push HW.out (HT6.out.alloc (.cells #[.int .i64 ok, .int .i64 oa, .int .i64 ob] 39)) ((Below.heap_alloc _ _ _ (lt_of_block HR5.out)).trans HR5.out) HSX.out HQLX.out hown hgrow)
            clear hown hgrow
            go_wp2
            go_roundw
            case rel => exact ⟨_, _, _, HP⟩
            case measure => (have := HM.out; simp [lenOf]; omega)
          · obtain ⟨c', e', o, hoq⟩ : ∃ c' e' o, opQ L c 0 = (o, c', e') := ⟨_, _, _, rfl⟩
            obtain ⟨ok, oa, ob⟩ := o
            have hsx := hstep 0 (by rw [if_neg (fun h => hk0 h.2)])
            have hqx := HQL.out 0
            have hox := fun V hV => HOP.out V 0 hV
            rw [hoq] at hsx hqx
            simp only [hoq] at hox
            unfold opV at hox
            simp only at hsx hqx hox
            have HSX := Lib.hid hsx
            have HQLX := Lib.hid hqx
            have HOPX := Lib.hid hox
            clear hsx hqx hox hoq hstep hne hd hy htb hkq hm
            subst h12
            have k0 : kq = 0 := by simpa using hk0
            subst k0
            clear hk0
            go_wp2_with fail
            with_reducible refine HGL.out.mono ?_
            rintro r wr ⟨rfl, rfl⟩
            go_wp2_with fail
            with_reducible refine (HNX.out _ (Below.refl _ _)).mono ?_
            rintro r w1 ⟨rfl, hb1⟩
            have HB1 := Lib.hid hb1
            clear hb1
            go_wp2_with fail
            with_reducible refine (HMK.out _ _).mono ?_
            rintro r w2 ⟨rfl, hb2⟩
            have HB2 := Lib.hid (HB1.out.trans (hb2.mono HB1.out.size))
            clear hb2 d0 d1 d2
            go_wp2_with fail
            with_reducible refine (HNX.out _ HB2.out).mono ?_
            rintro r w3 ⟨rfl, hb3⟩
            have HB3 := Lib.hid (HB2.out.trans (hb3.mono HB2.out.size))
            clear hb3
            go_wp2_with fail
            with_reducible refine (HKD.out _).mono ?_
            rintro r w4 ⟨rfl, hb4⟩
            have HB4 := Lib.hid (HB3.out.trans (hb4.mono HB3.out.size))
            clear hb4
            go_wp2_with fail
            with_reducible refine (HOPX.out _ (HRI.out _ HB4.out)).mono ?_
            rintro r w5 ⟨rfl, hr, ht⟩
            have HR5 := Lib.hid hr
            have HT5 := Lib.hid ht
            clear hr ht
            have HT6 := Lib.hid ((turned_below HB4.out [b]).trans HT5.out (Newer.refl _ _))
            go_wp2_with (at_builtin; refine wpList_append_own _ rfl _ _ 22 rfl w.heap.size 39 i0 (.agg #[.int .i64 0, .int .i64 0, .int .i64 0]) 3 24 Tryd.underlying22 hi0 hz0 hz1 hz2 rfl (by decide) _ _ _ rfl (row_below (row_turned HW.out.row HT6.out HW.out.bw) ((Below.refl _ _).alloc (Nat.le_refl _) _)) ⟨_, 0, none⟩ 1 1 [.int .i64 ok, .int .i64 oa, .int .i64 ob] rfl rfl ?c1 ?c2 ?c3 ?c4 ?c5 ?_)
            case c1 => exact op_new _ _ _ _ _
            case c2 =>
              intro u hu
              simp at hu
              rcases hu with rfl | rfl | rfl <;> rfl
            case c3 => (have := HM.out; unfold maxLen; omega)
            case c4 => (have := HM.out; omega)
            case c5 => exact Nat.le_trans (Nat.le_trans HW.out.tur.size HT6.out.size) (by simp)
            intro v' w6 hown hgrow _
            obtain ⟨ao4, cap4, hv4, _⟩ := ownsRow_shape hown
            subst hv4
            have HP := Lib.hid (OpsW.push HW.out (HT6.out.alloc (.cells #[.int .i64 ok, .int .i64 oa, .int .i64 ob] 39)) ((Below.heap_alloc _ _ _ (lt_of_block HR5.out)).trans HR5.out) HSX.out HQLX.out hown hgrow)
            clear hown hgrow
            go_wp2
            go_roundw
            case rel => exact ⟨_, _, _, HP⟩
            case measure => (have := HM.out; simp [lenOf]; omega)
        · obtain ⟨c', e', o, hoq⟩ : ∃ c' e' o, opQ L c 0 = (o, c', e') := ⟨_, _, _, rfl⟩
          obtain ⟨ok, oa, ob⟩ := o
          have hsx := hstep 0 (by rw [if_neg (fun h => h12 h.1)])
          have hqx := HQL.out 0
          have hox := fun V hV => HOP.out V 0 hV
          rw [hoq] at hsx hqx
          simp only [hoq] at hox
          unfold opV at hox
          simp only at hsx hqx hox
          have HSX := Lib.hid hsx
          have HQLX := Lib.hid hqx
          have HOPX := Lib.hid hox
          clear hsx hqx hox hoq hstep hne hd hy htb hkq hm
          have m12 : ((m : Int) == 12) = false := by simp; omega
          go_wp2_with fail
          with_reducible refine HGL.out.mono ?_
          rintro r wr ⟨rfl, rfl⟩
          go_wp2_with fail
          with_reducible refine (HNX.out _ (Below.refl _ _)).mono ?_
          rintro r w1 ⟨rfl, hb1⟩
          have HB1 := Lib.hid hb1
          clear hb1
          go_wp2_with fail
          with_reducible refine (HMK.out _ _).mono ?_
          rintro r w2 ⟨rfl, hb2⟩
          have HB2 := Lib.hid (HB1.out.trans (hb2.mono HB1.out.size))
          clear hb2 d0 d1 d2
          go_wp2_with fail
          with_reducible refine (HOPX.out _ (HRI.out _ HB2.out)).mono ?_
          rintro r w5 ⟨rfl, hr, ht⟩
          have HR5 := Lib.hid hr
          have HT5 := Lib.hid ht
          clear hr ht
          have HT6 := Lib.hid ((turned_below HB2.out [b]).trans HT5.out (Newer.refl _ _))
          go_wp2_with (at_builtin; refine wpList_append_own _ rfl _ _ 22 rfl w.heap.size 39 i0 (.agg #[.int .i64 0, .int .i64 0, .int .i64 0]) 3 24 Tryd.underlying22 hi0 hz0 hz1 hz2 rfl (by decide) _ _ _ rfl (row_below (row_turned HW.out.row HT6.out HW.out.bw) ((Below.refl _ _).alloc (Nat.le_refl _) _)) ⟨_, 0, none⟩ 1 1 [.int .i64 ok, .int .i64 oa, .int .i64 ob] rfl rfl ?c1 ?c2 ?c3 ?c4 ?c5 ?_)
          case c1 => exact op_new _ _ _ _ _
          case c2 =>
            intro u hu
            simp at hu
            rcases hu with rfl | rfl | rfl <;> rfl
          case c3 => (have := HM.out; unfold maxLen; omega)
          case c4 => (have := HM.out; omega)
          case c5 => exact Nat.le_trans (Nat.le_trans HW.out.tur.size HT6.out.size) (by simp)
          intro v' w6 hown hgrow _
          obtain ⟨ao4, cap4, hv4, _⟩ := ownsRow_shape hown
          subst hv4
          have HP := Lib.hid (OpsW.push HW.out (HT6.out.alloc (.cells #[.int .i64 ok, .int .i64 oa, .int .i64 ob] 39)) ((Below.heap_alloc _ _ _ (lt_of_block HR5.out)).trans HR5.out) HSX.out HQLX.out hown hgrow)
          clear hown hgrow
          go_wp2
          go_roundw
          case rel => exact ⟨_, _, _, HP⟩
          case measure => (have := HM.out; simp [lenOf]; omega)
    · have hA := HW.out.st.dead he
      have HGD := Lib.hid (goes_dead he HW.out.rd)
      by_cases h0 : m = 0
      · subst h0
        have HFL := Lib.hid (fail_dead he HW.out.rd 4)
        have HAA := Lib.hid hA
        have HEE := Lib.hid he
        clear hA he hm
        go_wp2_with fail
        with_reducible refine HGD.out.mono ?_
        rintro r wr ⟨rfl, rfl⟩
        go_wp2_with fail
        with_reducible refine HFL.out.mono ?_
        rintro r w3 ⟨rfl, hr, ht⟩
        have HFIN := Lib.hid (HW.out.failed ht hr HEE.out HAA.out)
        clear hr ht
        go_wp2
        go_ret
        exact HFIN.out
      · have HFIN := Lib.hid (HW.out.fin (.inr ⟨he, hA⟩))
        have h0b : ((m : Int) == 0) = false := by simp; omega
        clear hA hm he
        go_wp2_with fail
        with_reducible refine HGD.out.mono ?_
        rintro r wr ⟨rfl, rfl⟩
        go_wp2
        go_ret
        exact HFIN.out
end Go.Proofs.YtmcfjlkjijaflaaDoor
