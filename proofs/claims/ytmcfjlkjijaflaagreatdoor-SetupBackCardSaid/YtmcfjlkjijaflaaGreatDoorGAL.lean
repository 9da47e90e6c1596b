/-
  The program's reader: ops.
  The program's reader: prog.
  The program's Parse.
  The program's reader, as setups' plain functions have it: need, a number.
-/
import Derived.Test.YtmcfjlkjijaflaaGreatDoorGAK
import Derived.Test.YtmcfjlkjijaflaaGreatDoorGAA
import Derived.Test.YtmcfjlkjijaflaaGreatDoorGAB

/- The program's reader: ops. -/
namespace Go.Proofs.YtmcfjlkjijaflaaGreatDoor
open Go.RowKit

def lenOf : Value → Nat
  | .slice _ n _ => n
  | _ => 0
/-- What ops leaves: its row, and the reader. -/
def OpsP (L : List Wd) (A : Except Bad (List Opn × Nat)) (w : World) (b : Nat) (ao : Option Addr) (cap : Nat) (r : Ending) (w' : World) : Prop :=
  ∃ (v : Value) (ops : List Opn) (c : Nat) (e : Int), r = .returned v ∧ w'.heap[b]? = some (.cells (rdC ao L.length cap c e) 124 (0, 0)) ∧ Turned [b] w w' ∧ ORow w.heap.size w' v ops ∧ c ≤ L.length ∧
    ((e = 0 ∧ A = .ok (ops, c + 1) ∧ nextR L c = (3, [125], 0, 0)) ∨ (e ≠ 0 ∧ A = .error (c, e)))
/-- The loop's state. -/
structure OpsW (L : List Wd) (A : Except Bad (List Opn × Nat)) (w wr : World) (b : Nat) (ao : Option Addr) (cap c : Nat) (e : Int) (ops : List Opn) (v : Value) : Prop where
  st : OpsI L A c e ops
  rd : wr.heap[b]? = some (.cells (rdC ao L.length cap c e) 124 (0, 0))
  tur : Turned [b] w wr
  row : ORow w.heap.size wr v ops
  le : c ≤ L.length
  bw : b < w.heap.size
theorem row_turned {w w' : World} {b base : Nat} {e : TypeId} {size : Nat} {v : Value} {n : Nat} {xs : List Value} (h : w.ownsRow base e size v n xs) (t : Turned [b] w w') (hb : b < base) : w'.ownsRow base e size v n xs :=
  row_same h fun k hk hl => t.block k hl (by simp; omega)
theorem OpsW.below {L : List Wd} {A : Except Bad (List Opn × Nat)} {w wr wr' : World} {b : Nat} {ao : Option Addr} {cap c : Nat} {e : Int} {ops : List Opn} {v : Value} (h : OpsW L A w wr b ao cap c e ops v) (hb : Below wr.heap.size wr wr') : OpsW L A w wr' b ao cap c e ops v :=
  ⟨h.st, (hb.block _ (lt_of_block h.rd)).trans h.rd, h.tur.trans (turned_below hb [b]) (Newer.refl _ _), row_below h.row hb, h.le, h.bw⟩
theorem OpsW.push {L : List Wd} {A : Except Bad (List Opn × Nat)} {w wr w1 w4 : World} {b : Nat} {ao : Option Addr} {cap c c' : Nat} {e e' : Int} {ops : List Opn} {v v' : Value} {o : Opn} (h : OpsW L A w wr b ao cap c e ops v)
    (t : Turned [b] wr w1) (hr : w1.heap[b]? = some (.cells (rdC ao L.length cap c' e') 124 (0, 0))) (hst : OpsI L A c' e' (ops ++ [o])) (hle : c' ≤ L.length)
    (hown : w4.ownsRow w.heap.size 109 3 v' (ops.length + 1) (opsC ops ++ opC o)) (hg : w1.grownBy w4 v.ownBlock) : OpsW L A w w4 b ao cap c' e' (ops ++ [o]) v' := by
  have hrow1 := row_turned h.row t h.bw
  have hb : Below w.heap.size w1 w4 := app_below (Below.refl _ _) (Nat.le_trans h.tur.size t.size) (Nat.le_refl _) hrow1 hg
  have t2 := h.tur.trans t (Newer.refl _ _)
  refine ⟨hst, (hb.block _ h.bw).trans hr, ⟨hb.os.trans t2.os, hb.tape.trans t2.tape, hb.output.trans t2.output, Nat.le_trans t2.size hb.size, fun k hk hx => (hb.block k hk).trans (t2.block k hk hx)⟩, ?_, hle, h.bw⟩
  unfold ORow
  rw [opsC_snoc, List.length_append, List.length_singleton]
  exact hown
theorem OpsW.fin {L : List Wd} {A : Except Bad (List Opn × Nat)} {w wr : World} {b : Nat} {ao : Option Addr} {cap c : Nat} {e : Int} {ops : List Opn} {v : Value} (h : OpsW L A w wr b ao cap c e ops v)
    (he : (e = 0 ∧ A = .ok (ops, c + 1) ∧ nextR L c = (3, [125], 0, 0)) ∨ (e ≠ 0 ∧ A = .error (c, e))) : OpsP L A w b ao cap (.returned v) wr :=
  ⟨v, ops, c, e, rfl, h.rd, h.tur, h.row, h.le, he⟩
theorem OpsW.failed {L : List Wd} {A : Except Bad (List Opn × Nat)} {w wr w1 : World} {b : Nat} {ao : Option Addr} {cap c : Nat} {e e' : Int} {ops : List Opn} {v : Value} (h : OpsW L A w wr b ao cap c e ops v)
    (t : Turned [b] wr w1) (hr : w1.heap[b]? = some (.cells (rdC ao L.length cap c e') 124 (0, 0))) (he : e' ≠ 0) (hA : A = .error (c, e')) : OpsP L A w b ao cap (.returned v) w1 :=
  ⟨v, ops, c, e', rfl, hr, h.tur.trans t (Newer.refl _ _), row_turned h.row t h.bw, h.le, .inr ⟨he, hA⟩⟩
theorem OpsI.dead {L : List Wd} {A : Except Bad (List Opn × Nat)} {c : Nat} {e : Int} {ops : List Opn} (h : OpsI L A c e ops) (he : e ≠ 0) : A = .error (c, e) := by
  rcases h with ⟨h0, _⟩ | ⟨_, _, h⟩
  · exact absurd h0 he
  · exact h
theorem OpsI.len {L : List Wd} {A : Except Bad (List Opn × Nat)} {c : Nat} {e : Int} {ops : List Opn} (h : OpsI L A c e ops) : ops.length ≤ 13 ∧ (e = 0 → ops.length ≤ 12) := by
  rcases h with ⟨_, h, _⟩ | ⟨h0, h, _⟩
  · exact ⟨by omega, fun _ => h⟩
  · exact ⟨h, fun e0 => absurd e0 h0⟩
set_option maxRecDepth 100000 in
set_option maxHeartbeats 12800000 in
theorem ops_any {w : World} {b : Nat} {ao : Option Addr} {bw off cap : Nat} {L : List Wd} {c0 : Nat} (h : RdI w b ao bw off cap L c0 0) (hL : Clean L) :
    Calls Tryz.prog 122 #[.pointer (some ⟨b, 0, none⟩)] w (OpsP L (opsR L 13 c0 []) w b ao cap) := by
  obtain ⟨i0, hi0, hz0, hz1, hz2⟩ := info_parts op_info
  have HRT := Lib.hid (fun V c' e' (t : Turned [b] w V) hr hc => h.turned (c' := c') (e' := e') t hr hc)
  have HCL := Lib.hid hL
  have HMK := Lib.hid (fun s W => pmark_any s W)
  have HST : Hid (OpsW L (opsR L 13 c0 []) w w b ao cap c0 0 [] (.slice none 0 0)) := ⟨OpsI.start L c0, h.rd, Turned.refl _ _, World.ownsRow_nil _ _ _ _, h.le, lt_of_block h.rd⟩
  obtain ⟨A, hA⟩ : ∃ A, opsR L 13 c0 [] = A := ⟨_, rfl⟩
  rw [hA] at HST ⊢
  clear hA h hL
  go_enter Tryz.func122, Tryz.ntmps122
  go_wp2_with fail
  go_loopw [3] (fun l' wr => ∃ (c : Nat) (e : Int) (ops : List Opn), Hid (OpsW L A w wr b ao cap c e ops l')) (fun l' _ => 13 - lenOf l')
  case atStart => exact ⟨c0, 0, [], HST⟩
  case round =>
    obtain ⟨c, e, ops, HW⟩ := hrel
    obtain ⟨aov, capv, hv, _⟩ := ownsRow_shape HW.out.row
    subst hv
    obtain ⟨m, hm⟩ : ∃ m, ops.length = m := ⟨_, rfl⟩
    have HM := Lib.hid hm
    obtain ⟨hl13, hl12⟩ := HW.out.st.len
    rw [hm] at HW hl13 hl12 ⊢
    obtain ⟨d0, d1, d2⟩ := three_cells HW.out.rd
    by_cases he : e = 0
    · subst he
      have hl12 := hl12 rfl
      have HRI := Lib.hid (fun V (hb : Below wr.heap.size wr V) => HRT.out V c 0 (HW.out.below hb).tur (HW.out.below hb).rd HW.out.le)
      have HNX := Lib.hid (fun V (hb : Below wr.heap.size wr V) => next_any (HRI.out V hb))
      have HGL := Lib.hid (goes_live HW.out.rd)
      have hq := fun W => neq_words (nextR L c) (3, [125], 0, 0) W
      have hkd := fun W => kindof_any (nextR L c) W
      obtain ⟨y0, ty, y2, hy⟩ := next_form L c
      unfold wdV at hq hkd HNX
      obtain ⟨tb, htb⟩ : ∃ t : ByteArray, ⟨ty.toArray⟩ = t := ⟨_, rfl⟩
      obtain ⟨kq, hkq⟩ : ∃ kq, kindQ (nextR L c) = kq := ⟨_, rfl⟩
      simp only [hkq] at hkd
      simp only [hy, htb] at HNX hkd
      have hq2 : ∀ W, (binOp .neq 72 (.agg #[.int .i64 y0, .string tb, .int .i64 y2, .int .i64 0]) (.agg #[.int .i64 3, .string ⟨#[125]⟩, .int .i64 0, .int .i64 0])).run Tryz.prog W = .ok (.bool (!decide (nextR L c = ((3, [125], 0, 0) : Wd)))) W := fun W => by
        have h := hq W
        simp only [hy, htb] at h
        rw [hy]
        exact h
      have HKD := Lib.hid hkd
      clear hq hkd
      cases hd : decide (nextR L c = ((3, [125], 0, 0) : Wd)) with
      | true =>
        rw [hd] at hq2
        have hA := HW.out.st.last HCL.out (of_decide_eq_true hd)
        have HN := Lib.hid (of_decide_eq_true hd)
        clear hd hy htb hkq hm
        go_wp2_with fail
        with_reducible refine HGL.out.mono ?_
        rintro r wr ⟨rfl, rfl⟩
        go_wp2_with fail
        with_reducible refine (HNX.out _ (Below.refl _ _)).mono ?_
        rintro r w1 ⟨rfl, hb1⟩
        have HB1 := Lib.hid hb1
        clear hb1
        go_wp2_with fail
        with_reducible refine (HMK.out _ _).mono ?_
        rintro r w2 ⟨rfl, hb2⟩
        have HB2 := Lib.hid (HB1.out.trans (hb2.mono HB1.out.size))
        clear hb2 d0 d1 d2
        by_cases h0 : m = 0
        · have hops : ops = [] := List.eq_nil_of_length_eq_zero (HM.out.trans h0)
          rw [if_pos hops] at hA
          subst h0
          have HAA := Lib.hid hA
          have HFL := Lib.hid (fail_live (HW.out.below HB2.out).rd 4)
          clear hA hops
          go_wp2_with fail
          with_reducible refine HFL.out.mono ?_
          rintro r w3 ⟨rfl, hr, ht⟩
          have HFIN := Lib.hid ((HW.out.below HB2.out).failed ht hr (by decide) HAA.out)
          clear hr ht
          go_wp2
          go_ret
          exact HFIN.out
        · have hops : ¬ ops = [] := by
            rintro rfl
            exact h0 HM.out.symm
          rw [if_neg hops] at hA
          have HFIN := Lib.hid ((HW.out.below HB2.out).fin (.inl ⟨rfl, hA, HN.out⟩))
          have h0b : ((m : Int) == 0) = false := by simp; omega
          clear hA hops
          go_wp2
          go_ret
          exact HFIN.out
      | false =>
        rw [hd] at hq2
        have hne := of_decide_eq_false hd
        have hstep := fun e1 (he : e1 = if ops.length = 12 ∧ kindQ (nextR L c) ≠ 0 then (6 : Int) else 0) => HW.out.st.step HCL.out hne he
        rw [HM.out, hkq] at hstep
        have HQL := Lib.hid (fun e1 => opQ_le (L := L) (c := c) (e := e1) HW.out.le)
        have HOP := Lib.hid (fun V e1 (hV : RdI V b ao bw off cap L c e1) => op_any hV HCL.out)
        by_cases h12 : m = 12
        · by_cases hk0 : kq ≠ 0
          · obtain ⟨c', e', o, hoq⟩ : ∃ c' e' o, opQ L c 6 = (o, c', e') := ⟨_, _, _, rfl⟩
            obtain ⟨ok, oa, ob⟩ := o
            have hsx := hstep 6 (by rw [if_pos ⟨h12, hk0⟩])
            have hqx := HQL.out 6
            have hox := fun V hV => HOP.out V 6 hV
            rw [hoq] at hsx hqx
            simp only [hoq] at hox
            unfold opV at hox
            simp only at hsx hqx hox
            have HSX := Lib.hid hsx
            have HQLX := Lib.hid hqx
            have HOPX := Lib.hid hox
            clear hsx hqx hox hoq hstep hne hd hy htb hkq hm
            have kb : (((kq : Nat) : Int) != 0) = true := by simp; omega
            have kb2 : (((kq : Nat) : Int) == 0) = false := by simp; omega
            subst h12
            go_wp2_with fail
            with_reducible refine HGL.out.mono ?_
            rintro r wr ⟨rfl, rfl⟩
            go_wp2_with fail
            with_reducible refine (HNX.out _ (Below.refl _ _)).mono ?_
            rintro r w1 ⟨rfl, hb1⟩
            have HB1 := Lib.hid hb1
            clear hb1
            go_wp2_with fail
            with_reducible refine (HMK.out _ _).mono ?_
            rintro r w2 ⟨rfl, hb2⟩
            have HB2 := Lib.hid (HB1.out.trans (hb2.mono HB1.out.size))
            clear hb2 d0 d1 d2
            go_wp2_with fail
            with_reducible refine (HNX.out _ HB2.out).mono ?_
            rintro r w3 ⟨rfl, hb3⟩
            have HB3 := Lib.hid (HB2.out.trans (hb3.mono HB2.out.size))
            clear hb3
            go_wp2_with fail
            with_reducible refine (HKD.out _).mono ?_
            rintro r w4 ⟨rfl, hb4⟩
            have HB4 := Lib.hid (HB3.out.trans (hb4.mono HB3.out.size))
            clear hb4
            have HFL := Lib.hid (fail_live (HW.out.below HB4.out).rd 6)
            go_wp2_with fail
            with_reducible refine HFL.out.mono ?_
            rintro r w7 ⟨rfl, hr, ht⟩
            have HT7 := Lib.hid ((turned_below HB4.out [b]).trans ht (Newer.refl _ _))
            have HR7 := Lib.hid (HRT.out _ c 6 (HW.out.tur.trans HT7.out (Newer.refl _ _)) hr HW.out.le)
            clear hr ht
            go_wp2_with fail
            with_reducible refine (HOPX.out _ HR7.out).mono ?_
            rintro r w5 ⟨rfl, hr, ht⟩
            have HR5 := Lib.hid hr
            have HT5 := Lib.hid ht
            clear hr ht
            have HT6 := Lib.hid (HT7.out.trans HT5.out (Newer.refl _ _))
            go_wp2_with (at_builtin; refine wpList_append_own _ rfl _ _ 49 rfl w.heap.size 109 i0 (.agg #[.int .i64 0, .int .i64 0, .int .i64 0]) 3 24 Tryz.underlying49 hi0 hz0 hz1 hz2 rfl (by decide) _ _ _ rfl (row_below (row_turned HW.out.row HT6.out HW.out.bw) ((Below.refl _ _).alloc (Nat.le_refl _) _)) ⟨_, 0, none⟩ 1 1 [.int .i64 ok, .int .i64 oa, .int .i64 ob] rfl rfl ?c1 ?c2 ?c3 ?c4 ?c5 ?_)
            case c1 => exact op_new _ _ _ _ _
            case c2 =>
              intro u hu
              simp at hu
              rcases hu with rfl | rfl | rfl <;> rfl
            case c3 => (have := HM.out; unfold maxLen; omega)
            case c4 => (have := HM.out; omega)
            case c5 => exact Nat.le_trans (Nat.le_trans HW.out.tur.size HT6.out.size) (by simp)
            intro v' w6 hown hgrow _
            obtain ⟨ao4, cap4, hv4, _⟩ := ownsRow_shape hown
            subst hv4
            have HP := Lib.hid (OpsW.push HW.out (HT6.out.alloc (.cells #[.int .i64 ok, .int .i64 oa, .int .i64 ob] 109)) ((Below.heap_alloc _ _ _ (lt_of_block HR5.out)).trans HR5.out) HSX.out HQLX.out hown hgrow)
            clear hown hgrow
            go_wp2
            go_roundw
            case rel => exact ⟨_, _, _, HP⟩
            case measure => (have := HM.out; simp [lenOf]; omega)
          · obtain ⟨c', e', o, hoq⟩ : ∃ c' e' o, opQ L c 0 = (o, c', e') := ⟨_, _, _, rfl⟩
            obtain ⟨ok, oa, ob⟩ := o
            have hsx := hstep 0 (by rw [if_neg (fun h => hk0 h.2)])
            have hqx := HQL.out 0
            have hox := fun V hV => HOP.out V 0 hV
            rw [hoq] at hsx hqx
            simp only [hoq] at hox
            unfold opV at hox
            simp only at hsx hqx hox
            have HSX := Lib.hid hsx
            have HQLX := Lib.hid hqx
            have HOPX := Lib.hid hox
            clear hsx hqx hox hoq hstep hne hd hy htb hkq hm
            subst h12
            have k0 : kq = 0 := by simpa using hk0
            subst k0
            clear hk0
            go_wp2_with fail
            with_reducible refine HGL.out.mono ?_
            rintro r wr ⟨rfl, rfl⟩
            go_wp2_with fail
            with_reducible refine (HNX.out _ (Below.refl _ _)).mono ?_
            rintro r w1 ⟨rfl, hb1⟩
            have HB1 := Lib.hid hb1
            clear hb1
            go_wp2_with fail
            with_reducible refine (HMK.out _ _).mono ?_
            rintro r w2 ⟨rfl, hb2⟩
            have HB2 := Lib.hid (HB1.out.trans (hb2.mono HB1.out.size))
            clear hb2 d0 d1 d2
            go_wp2_with fail
            with_reducible refine (HNX.out _ HB2.out).mono ?_
            rintro r w3 ⟨rfl, hb3⟩
            have HB3 := Lib.hid (HB2.out.trans (hb3.mono HB2.out.size))
            clear hb3
            go_wp2_with fail
            with_reducible refine (HKD.out _).mono ?_
            rintro r w4 ⟨rfl, hb4⟩
            have HB4 := Lib.hid (HB3.out.trans (hb4.mono HB3.out.size))
            clear hb4
            go_wp2_with fail
            with_reducible refine (HOPX.out _ (HRI.out _ HB4.out)).mono ?_
            rintro r w5 ⟨rfl, hr, ht⟩
            have HR5 := Lib.hid hr
            have HT5 := Lib.hid ht
            clear hr ht
            have HT6 := Lib.hid ((turned_below HB4.out [b]).trans HT5.out (Newer.refl _ _))
            go_wp2_with (at_builtin; refine wpList_append_own _ rfl _ _ 49 rfl w.heap.size 109 i0 (.agg #[.int .i64 0, .int .i64 0, .int .i64 0]) 3 24 Tryz.underlying49 hi0 hz0 hz1 hz2 rfl (by decide) _ _ _ rfl (row_below (row_turned HW.out.row HT6.out HW.out.bw) ((Below.refl _ _).alloc (Nat.le_refl _) _)) ⟨_, 0, none⟩ 1 1 [.int .i64 ok, .int .i64 oa, .int .i64 ob] rfl rfl ?c1 ?c2 ?c3 ?c4 ?c5 ?_)
            case c1 => exact op_new _ _ _ _ _
            case c2 =>
              intro u hu
              simp at hu
              rcases hu with rfl | rfl | rfl <;> rfl
            case c3 => (have := HM.out; unfold maxLen; omega)
            case c4 => (have := HM.out; omega)
            case c5 => exact Nat.le_trans (Nat.le_trans HW.out.tur.size HT6.out.size) (by simp)
            intro v' w6 hown hgrow _
            obtain ⟨ao4, cap4, hv4, _⟩ := ownsRow_shape hown
            subst hv4
            have HP := Lib.hid (OpsW.push HW.out (HT6.out.alloc (.cells #[.int .i64 ok, .int .i64 oa, .int .i64 ob] 109)) ((Below.heap_alloc _ _ _ (lt_of_block HR5.out)).trans HR5.out) HSX.out HQLX.out hown hgrow)
            clear hown hgrow
            go_wp2
            go_roundw
            case rel => exact ⟨_, _, _, HP⟩
            case measure => (have := HM.out; simp [lenOf]; omega)
        · obtain ⟨c', e', o, hoq⟩ : ∃ c' e' o, opQ L c 0 = (o, c', e') := ⟨_, _, _, rfl⟩
          obtain ⟨ok, oa, ob⟩ := o
          have hsx := hstep 0 (by rw [if_neg (fun h => h12 h.1)])
          have hqx := HQL.out 0
          have hox := fun V hV => HOP.out V 0 hV
          rw [hoq] at hsx hqx
          simp only [hoq] at hox
          unfold opV at hox
          simp only at hsx hqx hox
          have HSX := Lib.hid hsx
          have HQLX := Lib.hid hqx
          have HOPX := Lib.hid hox
          clear hsx hqx hox hoq hstep hne hd hy htb hkq hm
          have m12 : ((m : Int) == 12) = false := by simp; omega
          go_wp2_with fail
          with_reducible refine HGL.out.mono ?_
          rintro r wr ⟨rfl, rfl⟩
          go_wp2_with fail
          with_reducible refine (HNX.out _ (Below.refl _ _)).mono ?_
          rintro r w1 ⟨rfl, hb1⟩
          have HB1 := Lib.hid hb1
          clear hb1
          go_wp2_with fail
          with_reducible refine (HMK.out _ _).mono ?_
          rintro r w2 ⟨rfl, hb2⟩
          have HB2 := Lib.hid (HB1.out.trans (hb2.mono HB1.out.size))
          clear hb2 d0 d1 d2
          go_wp2_with fail
          with_reducible refine (HOPX.out _ (HRI.out _ HB2.out)).mono ?_
          rintro r w5 ⟨rfl, hr, ht⟩
          have HR5 := Lib.hid hr
          have HT5 := Lib.hid ht
          clear hr ht
          have HT6 := Lib.hid ((turned_below HB2.out [b]).trans HT5.out (Newer.refl _ _))
          go_wp2_with (at_builtin; refine wpList_append_own _ rfl _ _ 49 rfl w.heap.size 109 i0 (.agg #[.int .i64 0, .int .i64 0, .int .i64 0]) 3 24 Tryz.underlying49 hi0 hz0 hz1 hz2 rfl (by decide) _ _ _ rfl (row_below (row_turned HW.out.row HT6.out HW.out.bw) ((Below.refl _ _).alloc (Nat.le_refl _) _)) ⟨_, 0, none⟩ 1 1 [.int .i64 ok, .int .i64 oa, .int .i64 ob] rfl rfl ?c1 ?c2 ?c3 ?c4 ?c5 ?_)
          case c1 => exact op_new _ _ _ _ _
          case c2 =>
            intro u hu
            simp at hu
            rcases hu with rfl | rfl | rfl <;> rfl
          case c3 => (have := HM.out; unfold maxLen; omega)
          case c4 => (have := HM.out; omega)
          case c5 => exact Nat.le_trans (Nat.le_trans HW.out.tur.size HT6.out.size) (by simp)
          intro v' w6 hown hgrow _
          obtain ⟨ao4, cap4, hv4, _⟩ := ownsRow_shape hown
          subst hv4
          have HP := Lib.hid (OpsW.push HW.out (HT6.out.alloc (.cells #[.int .i64 ok, .int .i64 oa, .int .i64 ob] 109)) ((Below.heap_alloc _ _ _ (lt_of_block HR5.out)).trans HR5.out) HSX.out HQLX.out hown hgrow)
          clear hown hgrow
          go_wp2
          go_roundw
          case rel => exact ⟨_, _, _, HP⟩
          case measure => (have := HM.out; simp [lenOf]; omega)
    · have hA := HW.out.st.dead he
      have HGD := Lib.hid (goes_dead he HW.out.rd)
      by_cases h0 : m = 0
      · subst h0
        have HFL := Lib.hid (fail_dead he HW.out.rd 4)
        have HAA := Lib.hid hA
        have HEE := Lib.hid he
        clear hA he hm
        go_wp2_with fail
        with_reducible refine HGD.out.mono ?_
        rintro r wr ⟨rfl, rfl⟩
        go_wp2_with fail
        with_reducible refine HFL.out.mono ?_
        rintro r w3 ⟨rfl, hr, ht⟩
        have HFIN := Lib.hid (HW.out.failed ht hr HEE.out HAA.out)
        clear hr ht
        go_wp2
        go_ret
        exact HFIN.out
      · have HFIN := Lib.hid (HW.out.fin (.inr ⟨he, hA⟩))
        have h0b : ((m : Int) == 0) = false := by simp; omega
        clear hA hm he
        go_wp2_with fail
        with_reducible refine HGD.out.mono ?_
        rintro r wr ⟨rfl, rfl⟩
        go_wp2
        go_ret
        exact HFIN.out
end Go.Proofs.YtmcfjlkjijaflaaGreatDoor

/- The program's reader: prog. -/
namespace Go.Proofs.YtmcfjlkjijaflaaGreatDoor
open Go.RowKit

set_option maxRecDepth 100000 in
theorem ops_dead {w : World} {b : Nat} {ao : Option Addr} {n cap c : Nat} {e : Int} (h : w.heap[b]? = some (.cells (rdC ao n cap c e) 124 (0, 0))) (he : e ≠ 0) :
    Calls Tryz.prog 122 #[.pointer (some ⟨b, 0, none⟩)] w (StepP (.slice none 0 0) w b ao n cap c e) := by
  have HFL := Lib.hid (fail_dead he h 4)
  have HGD := Lib.hid (goes_dead he h)
  clear h he
  go_enter Tryz.func122, Tryz.ntmps122
  go_wp2_with fail
  go_loopw [3] (fun l' wr => l' = .slice none 0 0 ∧ wr = w) (fun l' _ => lenOf l')
  case atStart => exact ⟨rfl, rfl⟩
  case round =>
    obtain ⟨rfl, rfl⟩ := hrel
    go_wp2_with fail
    with_reducible refine HGD.out.mono ?_
    rintro r w ⟨rfl, rfl⟩
    go_wp2_with fail
    with_reducible refine HFL.out.mono ?_
    rintro r w3 ⟨rfl, hr, ht⟩
    have HR := Lib.hid hr
    have HT := Lib.hid ht
    clear hr ht
    go_wp2
    go_ret
    exact ⟨rfl, HR.out, HT.out⟩
/-- What ops comes to, live or not. -/
def OpsQ (L : List Wd) (c : Nat) (e : Int) (ops : List Opn) (c' : Nat) (e' : Int) : Prop :=
  (e ≠ 0 ∧ ops = [] ∧ c' = c ∧ e' = e) ∨ (e = 0 ∧ ((e' = 0 ∧ opsR L 13 c [] = .ok (ops, c' + 1) ∧ nextR L c' = (3, [125], 0, 0)) ∨ (e' ≠ 0 ∧ opsR L 13 c [] = .error (c', e'))))
theorem ops_both {w : World} {b : Nat} {ao : Option Addr} {bw off cap : Nat} {L : List Wd} {c : Nat} {e : Int} (h : RdI w b ao bw off cap L c e) (hL : Clean L) :
    Calls Tryz.prog 122 #[.pointer (some ⟨b, 0, none⟩)] w fun r w' => ∃ (v : Value) (ops : List Opn) (c' : Nat) (e' : Int), r = .returned v ∧ w'.heap[b]? = some (.cells (rdC ao L.length cap c' e') 124 (0, 0)) ∧ Turned [b] w w' ∧ ORow w.heap.size w' v ops ∧ c' ≤ L.length ∧ OpsQ L c e ops c' e' := by
  by_cases he : e = 0
  · subst he
    refine (ops_any h hL).mono ?_
    rintro r w' ⟨v, ops, c', e', h1, h2, h3, h4, h5, h6⟩
    exact ⟨v, ops, c', e', h1, h2, h3, h4, h5, .inr ⟨rfl, h6⟩⟩
  · refine (ops_dead h.rd he).mono ?_
    rintro r w' ⟨h1, h2, h3⟩
    exact ⟨_, [], c, e, h1, h2, h3, World.ownsRow_nil _ _ _ _, h.le, .inl ⟨he, rfl, rfl, rfl⟩⟩
def tkQ (L : List Wd) (c : Nat) (e : Int) (x : Wd) : Bool × Nat × Int := if e = 0 ∧ nextR L c = x then (true, c + 1, 0) else (false, c, e)
theorem tkQ_le {L : List Wd} {c : Nat} {e : Int} {x : Wd} (h : c ≤ L.length) (hx : x.1 ≠ 0) : (tkQ L c e x).2.1 ≤ L.length := by
  unfold tkQ
  split
  · next hh =>
    have := next_lt (L := L) (c := c) (by rw [hh.2]; exact hx)
    exact this
  · exact h
theorem take_any {w : World} {b : Nat} {ao : Option Addr} {bw off cap : Nat} {L : List Wd} {c : Nat} {e : Int} (h : RdI w b ao bw off cap L c e) (x : Wd) (hx0 : x.1 ≠ 0 := by simp) :
    Calls Tryz.prog 118 #[.pointer (some ⟨b, 0, none⟩), wdV x] w (StepP (.bool (tkQ L c e x).1) w b ao L.length cap (tkQ L c e x).2.1 (tkQ L c e x).2.2) := by
  unfold tkQ
  by_cases hh : e = 0 ∧ nextR L c = x
  · rw [if_pos hh]
    obtain ⟨rfl, hx⟩ := hh
    exact take_yes h (next_lt (by rw [hx]; exact hx0)) hx
  · rw [if_neg hh]
    exact take_fail h (by
      by_cases he : e = 0
      · exact .inr fun hx => hh ⟨he, hx⟩
      · exact .inl he)
theorem prog_res {fn : Func} {p : Tmp} (hf : fn.results = #[.cell p 51]) {tmps : Array Value} {w : World} {B : Nat} {a b : Value} (hp : tmps.getD p undef = .pointer (some ⟨B, 0, none⟩)) (h : w.heap[B]? = some (.cells #[a, b] 51 (0, 0))) :
    (results fn tmps).run Tryz.prog w = .ok (.agg #[a, b]) w := by
  obtain ⟨h0, h1⟩ := two_cells h
  rw [results_one hf, hp]
  simp [loadVar, go_sem, h0, h1]
/-- The boxes of prog: its answer's, the program's; the reader's. -/
structure PF (w V : World) (b : Nat) (f : Bool) (ov : Value) (rc : Array Value) : Prop where
  res : V.heap[w.heap.size]? = some zeroP
  prg : V.heap[w.heap.size + 1]? = some (.cells #[.bool f, ov] 51 (0, 0))
  rd : V.heap[b]? = some (.cells rc 124 (0, 0))
  tur : Turned [b] w V
  bw : b < w.heap.size
theorem PF.siz {w V : World} {b : Nat} {f : Bool} {ov : Value} {rc : Array Value} (h : PF w V b f ov rc) : w.heap.size + 2 ≤ V.heap.size := lt_of_block h.prg
theorem PF.step {w V V' : World} {b : Nat} {f : Bool} {ov : Value} {rc rc' : Array Value} (h : PF w V b f ov rc) (t : Turned [b] V V') (hr : V'.heap[b]? = some (.cells rc' 124 (0, 0))) : PF w V' b f ov rc' := by
  have h1 := h.bw
  exact ⟨t.same h.res (by simp; omega), t.same h.prg (by simp; omega), hr, h.tur.trans t (Newer.refl _ _), h1⟩
theorem PF.below {w V V' : World} {b : Nat} {f : Bool} {ov : Value} {rc : Array Value} (h : PF w V b f ov rc) (hb : Below V.heap.size V V') : PF w V' b f ov rc :=
  h.step (turned_below hb [b]) ((hb.block _ (lt_of_block h.rd)).trans h.rd)
theorem PF.setF {w V : World} {b : Nat} {f : Bool} {ov : Value} {rc : Array Value} (h : PF w V b f ov rc) (f' : Bool) : PF w (V.setCell ⟨w.heap.size + 1, 0, none⟩ (.bool f')) b f' ov rc := by
  have h1 := h.bw
  refine ⟨(Below.heap_setCell _ _ _ _ (by show w.heap.size ≠ w.heap.size + 1; omega)).trans h.res, ?_, (Below.heap_setCell _ _ _ _ (by show b ≠ w.heap.size + 1; omega)).trans h.rd, h.tur.setCell (.inr (by show w.heap.size ≤ w.heap.size + 1; omega)) _, h1⟩
  rw [heap_setCell_same _ _ _ _ _ _ h.prg]
  rfl
theorem PF.setO {w V : World} {b : Nat} {f : Bool} {ov : Value} {rc : Array Value} (h : PF w V b f ov rc) (ov' : Value) : PF w (V.setCell ⟨w.heap.size + 1, 1, none⟩ ov') b f ov' rc := by
  have h1 := h.bw
  refine ⟨(Below.heap_setCell _ _ _ _ (by show w.heap.size ≠ w.heap.size + 1; omega)).trans h.res, ?_, (Below.heap_setCell _ _ _ _ (by show b ≠ w.heap.size + 1; omega)).trans h.rd, h.tur.setCell (.inr (by show w.heap.size ≤ w.heap.size + 1; omega)) _, h1⟩
  rw [heap_setCell_same _ _ _ _ _ _ h.prg]
  rfl
theorem PF.start {w : World} {b : Nat} {rc : Array Value} (hr : w.heap[b]? = some (.cells rc 124 (0, 0))) : PF w ((w.alloc zeroP).alloc zeroP) b false (.slice none 0 0) rc := by
  have hb := lt_of_block hr
  obtain ⟨h1, h2, h3, _⟩ := start_facts w false
  exact ⟨h1, h2, (h3.block _ hb).trans hr, turned_below h3 [b], hb⟩
theorem PF.fin {w V : World} {b : Nat} {f : Bool} {ov : Value} {rc : Array Value} (h : PF w V b f ov rc) {ops : List Opn} (hrow : ORow (w.heap.size + 2) V ov ops) (x y : Value) :
    ((V.setCell ⟨w.heap.size, 0, none⟩ x).setCell ⟨w.heap.size, 1, none⟩ y).heap[w.heap.size]? = some (.cells #[x, y] 51 (0, 0)) ∧
    ((V.setCell ⟨w.heap.size, 0, none⟩ x).setCell ⟨w.heap.size, 1, none⟩ y).heap[b]? = some (.cells rc 124 (0, 0)) ∧
    Turned [b] w ((V.setCell ⟨w.heap.size, 0, none⟩ x).setCell ⟨w.heap.size, 1, none⟩ y) ∧ ORow w.heap.size ((V.setCell ⟨w.heap.size, 0, none⟩ x).setCell ⟨w.heap.size, 1, none⟩ y) ov ops := by
  have hne : b ≠ w.heap.size := by have := h.bw; omega
  refine ⟨two_stored h.res, ?_, (h.tur.setCell (.inr (Nat.le_refl _)) _).setCell (.inr (Nat.le_refl _)) _, ?_⟩
  · rw [Below.heap_setCell _ _ _ _ hne, Below.heap_setCell _ _ _ _ hne]
    exact h.rd
  · refine row_base (row_same hrow fun k hk hl => ?_) (by omega)
    have hk2 : k ≠ w.heap.size := by omega
    rw [Below.heap_setCell _ _ _ _ hk2, Below.heap_setCell _ _ _ _ hk2]
/-- What prog answers, of the reader at place a. -/
def ProgQ (L : List Wd) (a : Nat) (f : Bool) (ops : List Opn) (c : Nat) (e : Int) : Prop :=
  (e = 0 ∧ parseR L a = ((f, ops), (c : Int), 0)) ∨ (e ≠ 0 ∧ parseR L a = ((false, []), (c : Int), e))
theorem prog_plain {L : List Wd} (hL : Clean L) {a : Nat} (ha : a ≤ L.length) {c1 : Nat} {e1 : Int} (h1 : needQ L a 0 (1, progB, 0, 0) = (c1, e1)) {f : Bool} {c2 : Nat} {e2 : Int} (h2 : tkQ L c1 e1 (1, foreverB, 0, 0) = (f, c2, e2))
    {c3 : Nat} {e3 : Int} (h3 : needQ L c2 e2 (3, [123], 0, 0) = (c3, e3)) {ops : List Opn} {c4 : Nat} {e4 : Int} (h4 : OpsQ L c3 e3 ops c4 e4) {c5 : Nat} {e5 : Int} (h5 : needQ L c4 e4 (3, [125], 0, 0) = (c5, e5)) : ProgQ L a f ops c5 e5 := by
  have dead : ∀ {c : Nat} {e : Int}, e ≠ 0 → c3 = c → e3 = e → c5 = c ∧ e5 = e := by
    intro c e he hc hee
    subst hc hee
    rcases h4 with ⟨_, _, rfl, rfl⟩ | ⟨h0, _⟩
    · rw [need_dead he] at h5
      simp only [Prod.mk.injEq] at h5
      exact ⟨h5.1.symm, h5.2.symm⟩
    · exact absurd h0 he
  rw [need_live] at h1
  cases hp : isR L a 1 progB with
  | false =>
    have hp2 := hp
    rw [is_next hL (.inl rfl), decide_eq_false_iff_not] at hp2
    rw [if_neg hp2] at h1
    simp only [Prod.mk.injEq] at h1
    obtain ⟨rfl, rfl⟩ := h1
    unfold tkQ at h2
    rw [if_neg (fun h => by have := h.1; omega)] at h2
    simp only [Prod.mk.injEq] at h2
    obtain ⟨rfl, rfl, rfl⟩ := h2
    rw [need_dead (by decide)] at h3
    simp only [Prod.mk.injEq] at h3
    obtain ⟨q1, q2⟩ := dead (by decide) h3.1.symm h3.2.symm
    subst q1 q2
    exact .inr ⟨by decide, parse_prog ha hp⟩
  | true =>
    have hp2 := hp
    rw [is_next hL (.inl rfl), decide_eq_true_eq] at hp2
    rw [if_pos hp2] at h1
    simp only [Prod.mk.injEq] at h1
    obtain ⟨rfl, rfl⟩ := h1
    have ho : openR L (a + 1) = (f, c2) ∧ e2 = 0 := by
      unfold openR
      rw [is_next hL (.inl rfl)]
      unfold tkQ at h2
      by_cases hf : nextR L (a + 1) = (1, foreverB, 0, 0)
      · rw [if_pos ⟨rfl, hf⟩] at h2
        simp only [Prod.mk.injEq] at h2
        obtain ⟨rfl, rfl, rfl⟩ := h2
        rw [decide_eq_true hf]
        exact ⟨rfl, rfl⟩
      · rw [if_neg (fun h => hf h.2)] at h2
        simp only [Prod.mk.injEq] at h2
        obtain ⟨rfl, rfl, rfl⟩ := h2
        rw [decide_eq_false hf]
        exact ⟨rfl, rfl⟩
    obtain ⟨ho, rfl⟩ := ho
    rw [need_live] at h3
    cases hb : isR L c2 3 [123] with
    | false =>
      have hb2 := hb
      rw [is_next hL (.inr rfl), decide_eq_false_iff_not] at hb2
      rw [if_neg hb2] at h3
      simp only [Prod.mk.injEq] at h3
      obtain ⟨q1, q2⟩ := dead (by decide) h3.1.symm h3.2.symm
      subst q1 q2
      exact .inr ⟨by decide, parse_open ha hp ho hb⟩
    | true =>
      have hb2 := hb
      rw [is_next hL (.inr rfl), decide_eq_true_eq] at hb2
      rw [if_pos hb2] at h3
      simp only [Prod.mk.injEq] at h3
      obtain ⟨rfl, rfl⟩ := h3
      have hP := parse_ops ha hp ho hb
      rcases h4 with ⟨h0, _⟩ | ⟨_, ⟨rfl, hA, hn⟩ | ⟨h4n, hA⟩⟩
      · exact absurd rfl h0
      · rw [need_live, if_pos hn] at h5
        simp only [Prod.mk.injEq] at h5
        obtain ⟨rfl, rfl⟩ := h5
        refine .inl ⟨rfl, ?_⟩
        rw [hP, hA]
        rfl
      · rw [need_dead h4n] at h5
        simp only [Prod.mk.injEq] at h5
        obtain ⟨rfl, rfl⟩ := h5
        refine .inr ⟨h4n, ?_⟩
        rw [hP, hA]
        rfl
end Go.Proofs.YtmcfjlkjijaflaaGreatDoor

/- The program's Parse. -/
namespace Go.Proofs.YtmcfjlkjijaflaaGreatDoor
open Go.RowKit

/-- What the reader's prog answers. -/
def ProgG (Q : Bool → List Opn → Nat → Int → Prop) (L : List Wd) (w : World) (b : Nat) (ao : Option Addr) (cap : Nat) (r : Ending) (w' : World) : Prop :=
  ∃ (f : Bool) (v : Value) (ops : List Opn) (c : Nat) (e : Int), r = .returned (.agg #[.bool f, v]) ∧ w'.heap[b]? = some (.cells (rdC ao L.length cap c e) 124 (0, 0)) ∧ Turned [b] w w' ∧ ORow w.heap.size w' v ops ∧ c ≤ L.length ∧ Q f ops c e
set_option maxRecDepth 100000 in
set_option maxHeartbeats 6400000 in
theorem prog_gen {Q : Bool → List Opn → Nat → Int → Prop} {w : World} {b : Nat} {ao : Option Addr} {bw off cap : Nat} {L : List Wd} {a : Nat} {e0 : Int} (h : RdI w b ao bw off cap L a e0) (hL : Clean L)
    (hQ : ∀ c1 e1 f c2 e2 c3 e3 ops c4 e4, needQ L a e0 (1, progB, 0, 0) = (c1, e1) → tkQ L c1 e1 (1, foreverB, 0, 0) = (f, c2, e2) → needQ L c2 e2 (3, [123], 0, 0) = (c3, e3) → OpsQ L c3 e3 ops c4 e4 → Q f ops (needQ L c4 e4 (3, [125], 0, 0)).1 (needQ L c4 e4 (3, [125], 0, 0)).2) :
    Calls Tryz.prog 109 #[.pointer (some ⟨b, 0, none⟩)] w (ProgG Q L w b ao cap) := by
  have HRT := Lib.hid (fun V c' e' (t : Turned [b] w V) hr hc => h.turned (c' := c') (e' := e') t hr hc)
  have HCL := Lib.hid hL
  have HLE := Lib.hid h.le
  have HNM := Lib.hid (fun s W => pname_any s W)
  have HMK := Lib.hid (fun s W => pmark_any s W)
  have HF0 := Lib.hid (PF.start h.rd)
  obtain ⟨c1, e1, q1⟩ : ∃ c1 e1, needQ L a e0 (1, progB, 0, 0) = (c1, e1) := ⟨_, _, rfl⟩
  obtain ⟨f, c2, e2, q2⟩ : ∃ f c2 e2, tkQ L c1 e1 (1, foreverB, 0, 0) = (f, c2, e2) := ⟨_, _, _, rfl⟩
  obtain ⟨c3, e3, q3⟩ : ∃ c3 e3, needQ L c2 e2 (3, [123], 0, 0) = (c3, e3) := ⟨_, _, rfl⟩
  have HPL := Lib.hid (fun ops c4 e4 (h4 : OpsQ L c3 e3 ops c4 e4) => hQ c1 e1 f c2 e2 c3 e3 ops c4 e4 q1 q2 q3 h4)
  have HLN := Lib.hid (fun c4 e4 (h4 : c4 ≤ L.length) => needQ_le (L := L) (c := c4) (e := e4) (x := (3, [125], 0, 0)) h4 (by show (3 : Int) ≠ 0; decide))
  have l1 : c1 ≤ L.length := by
    have := needQ_le (e := e0) (x := (1, progB, 0, 0)) h.le (by show (1 : Int) ≠ 0; decide)
    rw [q1] at this
    exact this
  have l2 : c2 ≤ L.length := by
    have := tkQ_le (e := e1) (x := (1, foreverB, 0, 0)) l1 (by show (1 : Int) ≠ 0; decide)
    rw [q2] at this
    exact this
  have l3 : c3 ≤ L.length := by
    have := needQ_le (e := e2) (x := (3, [123], 0, 0)) l2 (by show (3 : Int) ≠ 0; decide)
    rw [q3] at this
    exact this
  have hN1 := fun V (hV : RdI V b ao bw off cap L a e0) => need_any hV (1, progB, 0, 0)
  have hN2 := fun V (hV : RdI V b ao bw off cap L c1 e1) => take_any hV (1, foreverB, 0, 0)
  have hN3 := fun V (hV : RdI V b ao bw off cap L c2 e2) => need_any hV (3, [123], 0, 0)
  have hN4 := fun V (hV : RdI V b ao bw off cap L c3 e3) => ops_both hV hL
  have hN5 := fun V c4 e4 (hV : RdI V b ao bw off cap L c4 e4) => need_any hV (3, [125], 0, 0)
  unfold wdV at hN1 hN2 hN3 hN5
  simp only [q1, q2, q3] at hN1 hN2 hN3
  simp only at hN5
  have HN1 := Lib.hid hN1
  have HN2 := Lib.hid hN2
  have HN3 := Lib.hid hN3
  have HN4 := Lib.hid hN4
  have HN5 := Lib.hid hN5
  have HL1 := Lib.hid l1
  have HL2 := Lib.hid l2
  have HL3 := Lib.hid l3
  clear hN1 hN2 hN3 hN4 hN5 q1 q2 q3 l1 l2 l3 h hL
  go_enter Tryz.func109, Tryz.ntmps109
  have HW0 : Hid (∃ W0, (w.alloc zeroP).alloc zeroP = W0) := ⟨_, rfl⟩
  go_wp2_with fail
  obtain ⟨W0, hW0⟩ := HW0.out
  rw [hW0] at HF0
  simp only [hW0]
  clear hW0 HW0
  with_reducible refine (HNM.out _ _).mono ?_
  rintro r w1 ⟨rfl, hb⟩
  have HF1 := Lib.hid (HF0.out.below hb)
  clear hb
  go_wp2_with fail
  with_reducible refine (HN1.out _ (HRT.out _ _ _ HF1.out.tur HF1.out.rd HLE.out)).mono ?_
  rintro r w2 ⟨rfl, hr, ht⟩
  have HF2 := Lib.hid (HF1.out.step ht hr)
  clear hr ht
  go_wp2_with fail
  with_reducible refine (HNM.out _ _).mono ?_
  rintro r w3 ⟨rfl, hb⟩
  have HF3 := Lib.hid (HF2.out.below hb)
  clear hb
  go_wp2_with fail
  with_reducible refine (HN2.out _ (HRT.out _ _ _ HF3.out.tur HF3.out.rd HL1.out)).mono ?_
  rintro r w4 ⟨rfl, hr, ht⟩
  have hf := HF3.out.step ht hr
  have HF4 := Lib.hid (hf.setF f)
  clear hr ht
  obtain ⟨p0, p1⟩ := two_cells hf.prg
  have fp0 := not_frozen hf.prg 0
  have HW5 : Hid (∃ W5, w4.setCell ⟨w.heap.size + 1, 0, none⟩ (.bool f) = W5) := ⟨_, rfl⟩
  clear hf
  go_wp2_with fail
  obtain ⟨W5, hW5⟩ := HW5.out
  rw [hW5] at HF4 ⊢
  clear hW5 HW5 p0 p1 fp0
  with_reducible refine (HMK.out _ _).mono ?_
  rintro r w6 ⟨rfl, hb⟩
  have HF6 := Lib.hid (HF4.out.below hb)
  clear hb
  go_wp2_with fail
  with_reducible refine (HN3.out _ (HRT.out _ _ _ HF6.out.tur HF6.out.rd HL2.out)).mono ?_
  rintro r w7 ⟨rfl, hr, ht⟩
  have HF7 := Lib.hid (HF6.out.step ht hr)
  clear hr ht
  go_wp2_with fail
  refine (HN4.out _ (HRT.out _ _ _ HF7.out.tur HF7.out.rd HL3.out)).mono ?_
  rintro r w8 ⟨v, ops, c4, e4, rfl, hr, ht, hrow, hle4, hq4⟩
  have hf := HF7.out.step ht hr
  have HRW := Lib.hid (row_base hrow HF7.out.siz)
  have HF8 := Lib.hid (hf.setO v)
  have HPQ := Lib.hid (HPL.out ops c4 e4 hq4)
  have HL4 := Lib.hid hle4
  obtain ⟨aov, capv, hv, _⟩ := ownsRow_shape hrow
  obtain ⟨m, hm⟩ : ∃ m, ops.length = m := ⟨_, rfl⟩
  have HM := Lib.hid hm
  subst hv
  rw [hm] at HRW HF8 ⊢
  clear hr ht hrow hle4 hq4 hm
  obtain ⟨p0, p1⟩ := two_cells hf.prg
  have fp1 := not_frozen hf.prg 1
  have HW9 : Hid (∃ W9, w8.setCell ⟨w.heap.size + 1, 1, none⟩ (.slice aov m capv) = W9) := ⟨_, rfl⟩
  clear hf
  go_wp2_with fail
  have HRW2 := Lib.hid (row_same (w' := w8.setCell ⟨w.heap.size + 1, 1, none⟩ (.slice aov m capv)) HRW.out (fun k hk hl => Below.heap_setCell _ _ _ _ (by show k ≠ w.heap.size + 1; omega)))
  obtain ⟨W9, hW9⟩ := HW9.out
  rw [hW9] at HF8 HRW2 ⊢
  clear hW9 HW9 p0 p1 fp1
  with_reducible refine (HMK.out _ _).mono ?_
  rintro r w10 ⟨rfl, hb⟩
  have HF10 := Lib.hid (HF8.out.below hb)
  have HRW3 := Lib.hid (row_below HRW2.out hb)
  clear hb
  go_wp2_with fail
  with_reducible refine (HN5.out _ _ _ (HRT.out _ _ _ HF10.out.tur HF10.out.rd HL4.out)).mono ?_
  rintro r w11 ⟨rfl, hr, ht⟩
  have HF11 := Lib.hid (HF10.out.step ht hr)
  have HRW4 := Lib.hid (row_turned HRW3.out ht (by have := HF10.out.bw; omega))
  clear hr ht
  obtain ⟨p0, p1⟩ := two_cells HF11.out.prg
  obtain ⟨r0, r1⟩ := two_cells HF11.out.res
  have f0 := not_frozen HF11.out.res 0
  have f1 := not_frozen HF11.out.res 1
  have hrw : ORow (w.heap.size + 2) w11 (.slice aov m capv) ops := by
    unfold ORow
    rw [HM.out]
    exact HRW4.out
  have HFIN := Lib.hid (fun x y => HF11.out.fin hrw x y)
  clear hrw
  go_wp2
  refine bodyPost_ret (prog_res rfl rfl (HFIN.out _ _).1) rfl ?_
  exact ⟨f, _, ops, _, _, rfl, (HFIN.out _ _).2.1, (HFIN.out _ _).2.2.1, (HFIN.out _ _).2.2.2, HLN.out _ _ HL4.out, HPQ.out⟩
theorem prog_any {w : World} {b : Nat} {ao : Option Addr} {bw off cap : Nat} {L : List Wd} {a : Nat} (h : RdI w b ao bw off cap L a 0) (hL : Clean L) :
    Calls Tryz.prog 109 #[.pointer (some ⟨b, 0, none⟩)] w (ProgG (ProgQ L a) L w b ao cap) :=
  prog_gen h hL fun _ _ _ _ _ _ _ _ _ _ q1 q2 q3 h4 => prog_plain hL h.le q1 q2 q3 h4 rfl
/-- .. of a reader that can't go on. -/
theorem prog_stuck {w : World} {b : Nat} {ao : Option Addr} {bw off cap : Nat} {L : List Wd} {a : Nat} {e0 : Int} (h : RdI w b ao bw off cap L a e0) (hL : Clean L) (he : e0 ≠ 0) :
    Calls Tryz.prog 109 #[.pointer (some ⟨b, 0, none⟩)] w (ProgG (fun _ _ c e => c = a ∧ e = e0) L w b ao cap) :=
  prog_gen h hL fun c1 e1 f c2 e2 c3 e3 ops c4 e4 q1 q2 q3 h4 => by
    rw [need_dead he] at q1
    simp only [Prod.mk.injEq] at q1
    obtain ⟨rfl, rfl⟩ := q1
    unfold tkQ at q2
    rw [if_neg (fun h => he h.1)] at q2
    simp only [Prod.mk.injEq] at q2
    obtain ⟨_, rfl, rfl⟩ := q2
    rw [need_dead he] at q3
    simp only [Prod.mk.injEq] at q3
    obtain ⟨rfl, rfl⟩ := q3
    rcases h4 with ⟨_, _, rfl, rfl⟩ | ⟨h0, _⟩
    · rw [need_dead he]
      exact ⟨rfl, rfl⟩
    · exact absurd h0 he
theorem parse_start {w : World} {ao : Option Addr} {bw off cap : Nat} {L : List Wd} {a : Nat} {e0 : Int} (h : WArg w ao bw off L) (hl : L.length ≤ 100000) (ha : a ≤ L.length) :
    RdI ((w.alloc zeroP).alloc (.cells (rdC ao L.length cap a e0) 124)) (w.heap.size + 1) ao bw off cap L a e0 ∧
    ((w.alloc zeroP).alloc (.cells (rdC ao L.length cap a e0) 124)).heap[w.heap.size]? = some zeroP ∧
    Below w.heap.size w ((w.alloc zeroP).alloc (.cells (rdC ao L.length cap a e0) 124)) ∧ ((w.alloc zeroP).alloc (.cells (rdC ao L.length cap a e0) 124)).heap.size = w.heap.size + 2 := by
  have hb : Below w.heap.size w ((w.alloc zeroP).alloc (.cells (rdC ao L.length cap a e0) 124)) := ((Below.refl _ w).alloc (Nat.le_refl _) _).alloc (by simp) _
  have hr := heap_alloc_new (w.alloc zeroP) (.cells (rdC ao L.length cap a e0) 124)
  rw [show (w.alloc zeroP).heap.size = w.heap.size + 1 by simp] at hr
  refine ⟨⟨hr, h.below hb, fun h0 => ?_, ha, hl⟩, (Below.heap_alloc _ _ _ (by simp)).trans (heap_alloc_new w _), hb, by simp⟩
  have := (h.at_ h0).2
  omega
/-- Behind prog: the answer's box, the reader's, the program's. -/
theorem parse_behind {w W1 w2 : World} {rc : Array Value} {f : Bool} {v : Value} (h0 : W1.heap[w.heap.size]? = some zeroP) (hb : Below w.heap.size w W1) (ht : Turned [w.heap.size + 1] W1 w2) (hr : w2.heap[w.heap.size + 1]? = some (.cells rc 124 (0, 0))) :
    ∀ V, Below (w2.alloc (.cells #[.bool f, v] 51)).heap.size (w2.alloc (.cells #[.bool f, v] 51)) V →
      V.heap[w.heap.size]? = some zeroP ∧ V.heap[w.heap.size + 1]? = some (.cells rc 124 (0, 0)) ∧ V.heap[w2.heap.size]? = some (.cells #[.bool f, v] 51 (0, 0)) ∧ Below w.heap.size w V ∧ Below w2.heap.size w2 V ∧ w.heap.size + 2 ≤ w2.heap.size := by
  intro V hV
  obtain ⟨h1, h2⟩ := box_kept hV
  have hl := lt_of_block hr
  have ht2 : Below w.heap.size w w2 := hb.trans (ht.below (by simp) hb.size)
  exact ⟨(h2.block _ (by omega)).trans (ht.same h0 (by simp)), (h2.block _ hl).trans hr, h1, ht2.trans (h2.mono ht2.size), h2, hl⟩
theorem row_same2 {w w' : World} {base : Nat} {e : TypeId} {size : Nat} {v : Value} {n : Nat} {xs : List Value} (h : w.ownsRow base e size v n xs) (hs : ∀ k, v.ownBlock = some k → w'.heap[k]? = w.heap[k]?) : w'.ownsRow base e size v n xs :=
  ownsRow_same h fun k hk _ => hs k (by simpa using hk)
theorem ret_store {w V : World} {f : Bool} {v : Value} (h : V.heap[w.heap.size]? = some zeroP) (hb : Below w.heap.size w V) :
    ((V.setCell ⟨w.heap.size, 0, none⟩ (.bool f)).setCell ⟨w.heap.size, 1, none⟩ v).heap[w.heap.size]? = some (.cells #[.bool f, v] 51 (0, 0)) ∧ Below w.heap.size w ((V.setCell ⟨w.heap.size, 0, none⟩ (.bool f)).setCell ⟨w.heap.size, 1, none⟩ v) :=
  ⟨two_stored h, (hb.setCell (Nat.le_refl _) _).setCell (Nat.le_refl _) _⟩
theorem pread_in (ao : Option Addr) (n cap a : Nat) (w : World) (ha : a ≤ n) :
    Calls Tryz.prog 30 #[.slice ao n cap, .int .i64 a] w fun r w' => r = .returned (.pointer (some ⟨w.heap.size, 0, none⟩)) ∧ w' = w.alloc (.cells (rdC ao n cap a 0) 124) := by
  have hgn : ¬ (n : Int) < (a : Int) := by omega
  have hg0 : ¬ (a : Int) < 0 := by omega
  go_enter Tryz.func30, Tryz.ntmps30
  go_wp2
  go_ret
  exact ⟨rfl, rfl⟩
theorem pread_out (ao : Option Addr) (n cap : Nat) (a : Int) (w : World) (ha : a < 0 ∨ (n : Int) < a) :
    Calls Tryz.prog 30 #[.slice ao n cap, .int .i64 a] w fun r w' => r = .returned (.pointer (some ⟨w.heap.size, 0, none⟩)) ∧ w' = w.alloc (.cells (rdC none 0 0 0 5) 124) := by
  by_cases hg0 : a < 0
  · clear ha
    go_enter Tryz.func30, Tryz.ntmps30
    go_wp2
    go_ret
    exact ⟨rfl, rfl⟩
  · have hgn : (n : Int) < a := by omega
    clear ha
    go_enter Tryz.func30, Tryz.ntmps30
    go_wp2
    go_ret
    exact ⟨rfl, rfl⟩
theorem met_any {w : World} {b : Nat} {ao : Option Addr} {n cap c : Nat} {e : Int} (h : w.heap[b]? = some (.cells (rdC ao n cap c e) 124 (0, 0))) :
    Calls Tryz.prog 32 #[.pointer (some ⟨b, 0, none⟩)] w fun r w' => r = .returned (.tuple #[.int .i64 c, .int .i64 e]) ∧ ∃ q, w' = w.drewN q := by
  obtain ⟨d0, d1, d2⟩ := three_cells h
  clear h
  go_enter Tryz.func32, Tryz.ntmps32
  go_wp2_with fail
  go_quiet (fail)
  go_wp2
  go_ret2
  exact ⟨rfl, _, rfl⟩
set_option maxRecDepth 100000 in
set_option maxHeartbeats 6400000 in
theorem pparse_gen {Q : Bool → List Opn → Nat → Int → Prop} (ao : Option Addr) (b off cap : Nat) (L : List Wd) (a : Nat) (e0 : Int) (vs : Value) (iat : Value) (w : World) (h : WArg w ao b off L) (hm : L.length ≤ 100000) (ha : a ≤ L.length)
    (hread : ∀ w, Calls Tryz.prog 30 #[vs, iat] w fun r w' => r = .returned (.pointer (some ⟨w.heap.size, 0, none⟩)) ∧ w' = w.alloc (.cells (rdC ao L.length cap a e0) 124))
    (hp : ∀ W B, RdI W B ao b off cap L a e0 → Calls Tryz.prog 109 #[.pointer (some ⟨B, 0, none⟩)] W (ProgG Q L W B ao cap))
    (R : Prg × Int × Int) (hR : ∀ f ops c e, Q f ops c e → (e = 0 ∧ R = ((f, ops), (c : Int), 0)) ∨ (e ≠ 0 ∧ R = ((false, []), (c : Int), e))) :
    Calls Tryz.prog 79 #[vs, iat] w (ParseP R w) := by
  obtain ⟨s1, s2, s3, s4⟩ := parse_start (cap := cap) (e0 := e0) h hm ha
  have hp := hp _ _ s1
  have HR := Lib.hid hR
  obtain ⟨n, hn⟩ : ∃ n, L.length = n := ⟨_, rfl⟩
  unfold ProgG at hp
  rw [hn] at hp s2 s3 s4 hread
  have HP := Lib.hid hp
  have HS2 := Lib.hid s2
  have HS3 := Lib.hid s3
  have HS4 := Lib.hid s4
  have HRD := Lib.hid (hread (w.alloc zeroP))
  clear s1 s2 s3 s4 hp hR hn h ha hm hread
  go_enter Tryz.func79, Tryz.ntmps79
  go_wp2_with fail
  with_reducible refine HRD.out.mono ?_
  rintro r w1 ⟨rfl, rfl⟩
  go_wp2_with fail
  refine HP.out.mono ?_
  rintro r w2 ⟨f, v, ops, c, e, rfl, hr, ht, hrow, -, hq⟩
  have HX := Lib.hid (parse_behind (f := f) (v := v) HS2.out HS3.out ht hr)
  have HROW := Lib.hid (row_base hrow (by rw [HS4.out]; omega : w.heap.size ≤ _))
  obtain ⟨aov, capv, hv, _⟩ := ownsRow_shape hrow
  subst hv
  obtain ⟨m, hm⟩ : ∃ m, ops.length = m := ⟨_, rfl⟩
  have HM := Lib.hid hm
  have HQ := Lib.hid (HR.out _ _ _ _ hq)
  rw [hm] at HX HROW ⊢
  have hl2 : w.heap.size + 1 < w2.heap.size := lt_of_block hr
  clear hr ht hrow hq hm
  have HW3 : Hid (∃ W3, w2.alloc (.cells #[.bool f, .slice aov m capv] 51) = W3) := ⟨_, rfl⟩
  go_wp2_with fail
  obtain ⟨W3, hW3⟩ := HW3.out
  rw [hW3] at HX
  simp only [hW3]
  clear hW3 HW3
  with_reducible refine (met_any (HX.out W3 (Below.refl _ _)).2.1).mono ?_
  rintro r V ⟨rfl, q, rfl⟩
  have HH := Lib.hid (HX.out (W3.drewN q) (below_drewN (Below.refl _ _) q))
  obtain ⟨V, hV⟩ : ∃ V, W3.drewN q = V := ⟨_, rfl⟩
  rw [hV] at HH ⊢
  clear hV
  have n1 : w.heap.size + 1 ≠ w.heap.size := by omega
  have n2 : w2.heap.size ≠ w.heap.size := by omega
  obtain ⟨z0, z1⟩ := two_cells HH.out.1
  have f0 := not_frozen HH.out.1 0
  have f1 := not_frozen HH.out.1 1
  obtain ⟨p0, p1⟩ := two_cells HH.out.2.2.1
  by_cases he : e = 0
  · subst he
    have hR : R = ((f, ops), (c : Int), 0) := by
      rcases HQ.out with ⟨_, h⟩ | ⟨h, _⟩
      · exact h
      · exact absurd rfl h
    have HRR := Lib.hid hR
    clear hR
    go_wp2
    have hst := ret_store (f := f) (v := .slice aov m capv) HH.out.1 HH.out.2.2.2.1
    refine bodyPost_ret (prg_result2 rfl rfl rfl rfl hst.1) rfl ?_
    have hrow : ORow w.heap.size w2 (.slice aov m capv) ops := by
      unfold ORow
      rw [HM.out]
      exact HROW.out
    have hrow3 : ORow w.heap.size V (.slice aov m capv) ops := row_below hrow HH.out.2.2.2.2.1
    have hoff := block_off HH.out.1 hrow3 (by decide)
    refine parse_good HRR.out (row_same2 hrow3 fun k hk => ?_) hst.2
    have hne : k ≠ w.heap.size := by
      rintro rfl
      exact hoff (by simpa using hk.symm)
    exact (Below.heap_setCell (V.setCell ⟨w.heap.size, 0, none⟩ (.bool f)) ⟨w.heap.size, 1, none⟩ (.slice aov m capv) k hne).trans (Below.heap_setCell V ⟨w.heap.size, 0, none⟩ (.bool f) k hne)
  · have hR : R = ((false, []), (c : Int), e) := by
      rcases HQ.out with ⟨h, _⟩ | ⟨_, h⟩
      · exact absurd h he
      · exact h
    have HRR := Lib.hid hR
    have he1 : (e != 0) = true := by simpa using he
    clear hR he p0 p1
    go_wp2
    have hst := ret_store (f := false) (v := .slice none 0 0) HH.out.1 HH.out.2.2.2.1
    refine bodyPost_ret (prg_result2 rfl rfl rfl rfl hst.1) rfl ?_
    exact parse_bad HRR.out hst.2
theorem clean_nil : Clean [] := fun x hx => by cases hx
theorem WArg.nil (w : World) (b off : Nat) : WArg w none b off [] := ⟨fun h => absurd h (Nat.lt_irrefl 0), fun i hi => absurd hi (Nat.not_lt_zero i)⟩
theorem pparse_out (ao : Option Addr) (cap : Nat) (L : List Wd) (at_ : Int) (w : World) (h : at_ < 0 ∨ (L.length : Int) < at_) :
    Calls Tryz.prog 79 #[.slice ao L.length cap, .int .i64 at_] w (ParseP (parseR L at_) w) := by
  rw [parse_out h]
  refine pparse_gen (Q := fun _ _ c e => c = 0 ∧ e = 5) none 0 0 0 [] 0 5 _ _ w (WArg.nil w 0 0) (by simp) (by simp) (fun W => pread_out ao L.length cap at_ W h) (fun _ _ hB => prog_stuck hB clean_nil (by decide)) _ ?_
  rintro f ops c e ⟨rfl, rfl⟩
  exact .inr ⟨by decide, rfl⟩
theorem pparse_in (ao : Option Addr) (b off cap : Nat) (L : List Wd) (a : Nat) (w : World) (h : WArg w ao b off L) (hm : L.length ≤ 100000) (ha : a ≤ L.length) (hL : Clean L) :
    Calls Tryz.prog 79 #[.slice ao L.length cap, .int .i64 a] w (ParseP (parseR L a) w) :=
  pparse_gen ao b off cap L a 0 _ _ w h hm ha (fun W => pread_in ao L.length cap a W ha) (fun _ _ hB => prog_any hB hL) _ (fun _ _ _ _ hq => hq)
/-- The program's Parse, of words that have no field that they haven't. -/
theorem pparse_any (ao : Option Addr) (b off cap : Nat) (L : List Wd) (at_ : Int) (w : World) (h : WArg w ao b off L) (hm : L.length ≤ 100000) (hL : Clean L) :
    Calls Tryz.prog 79 #[.slice ao L.length cap, .int .i64 at_] w (ParseP (parseR L at_) w) := by
  by_cases hout : at_ < 0 ∨ (L.length : Int) < at_
  · exact pparse_out ao cap L at_ w hout
  · obtain ⟨a, rfl⟩ : ∃ a : Nat, at_ = a := ⟨at_.toNat, by omega⟩
    exact pparse_in ao b off cap L a w h hm (by omega) hL
end Go.Proofs.YtmcfjlkjijaflaaGreatDoor

/- The program's reader, as setups' plain functions have it: need, a number. -/
namespace Go.Proofs.YtmcfjlkjijaflaaGreatDoor
open Go.RowKit

theorem need_S {L : List Wd} (hL : Clean L) (c : Nat) (e : Int) {k : Int} (hk : k = 1 ∨ k = 3) (t : List By) : needQ L c e (k, t, 0, 0) = needS L (c, e) k t := by
  unfold needS isS
  by_cases he : e = 0
  · subst he
    rw [need_live]
    simp only [decide_true, Bool.true_and, if_true]
    rw [is_next hL hk]
    by_cases hn : nextR L c = (k, t, 0, 0)
    · rw [if_pos hn, decide_eq_true hn, if_pos rfl]
    · rw [if_neg hn, decide_eq_false hn, if_neg (by decide)]
  · rw [need_dead he]
    simp only [he, decide_false, Bool.false_and, if_false, Bool.false_eq_true]
theorem num_S (L : List Wd) (c : Nat) (e most : Int) : rdnR L c 1 most e = numS L (c, e) most := by
  unfold rdnR numS argR
  simp only
  by_cases he : e = 0
  · subst he
    rw [if_neg (by simp), if_neg (by simp)]
    cases hx : L[c]? with
    | none => rfl
    | some x =>
      simp only
      by_cases h2 : x.1 = 2
      · rw [if_pos h2, if_pos h2]
        by_cases hr : x.2.2.1 < 1 ∨ most < x.2.2.1
        · rw [if_pos hr, if_pos hr]
        · rw [if_neg hr, if_neg hr]
      · rw [if_neg h2, if_neg h2]
  · rw [if_pos he, if_pos he]
abbrev RwI (w : World) (b : Nat) (ao : Option Addr) (bw off cap : Nat) (L : List Wd) (s : Rd) : Prop := RdI w b ao bw off cap L s.1 s.2
/-- What a call that moves the reader leaves. -/
def RwP (b : Nat) (ao : Option Addr) (bw off cap : Nat) (L : List Wd) (s' : Rd) (w w' : World) : Prop := RwI w' b ao bw off cap L s' ∧ Turned [b] w w'
theorem needS_le {L : List Wd} {s : Rd} (h : s.1 ≤ L.length) (k : Int) (t : List By) : (needS L s k t).1 ≤ L.length := by
  unfold needS
  split
  · next hi =>
    unfold isS isR at hi
    simp only [Bool.and_eq_true, decide_eq_true_eq] at hi
    by_cases hc : s.1 < L.length
    · exact hc
    · rw [List.getElem?_eq_none (by omega)] at hi
      cases hi.2
  · split <;> exact h
theorem numS_le {L : List Wd} {s : Rd} (h : s.1 ≤ L.length) (most : Int) : (numS L s most).2.1 ≤ L.length := by
  unfold numS
  split
  · exact h
  · split
    · exact h
    · next e =>
      have := (List.getElem?_eq_some_iff.1 e).1
      split
      · split
        · exact h
        · exact this
      · exact h
theorem sneed_any {w : World} {b : Nat} {ao : Option Addr} {bw off cap : Nat} {L : List Wd} {s : Rd} (h : RwI w b ao bw off cap L s) (hL : Clean L) {k : Int} (hk : k = 1 ∨ k = 3) (t : ByteArray) :
    Calls Tryz.prog 103 #[.pointer (some ⟨b, 0, none⟩), .agg #[.int .i64 k, .string t, .int .i64 0, .int .i64 0]] w fun r w' => r = .returned (.tuple #[]) ∧ RwP b ao bw off cap L (needS L s k t.data.toList) w w' := by
  have hn := need_any h (k, t.data.toList, 0, 0) (by show k ≠ 0; omega)
  unfold wdV at hn
  simp only [Lib.mk_data] at hn
  refine hn.mono ?_
  rintro r w' ⟨h1, h2, h3⟩
  rw [need_S hL s.1 s.2 hk] at h2
  exact ⟨h1, h.turned h3 h2 (needS_le h.le k _), h3⟩
theorem snum_any {w : World} {b : Nat} {ao : Option Addr} {bw off cap : Nat} {L : List Wd} {s : Rd} (h : RwI w b ao bw off cap L s) (hL : Clean L) (most : Int) :
    Calls Tryz.prog 104 #[.pointer (some ⟨b, 0, none⟩), .agg #[.int .i64 1, .int .i64 most]] w fun r w' => r = .returned (.int .i64 (numS L s most).1) ∧ RwP b ao bw off cap L (numS L s most).2 w w' := by
  refine (number_any h hL 1 most).mono ?_
  rintro r w' ⟨h1, h2, h3⟩
  rw [num_S L s.1 s.2 most] at h1 h2
  exact ⟨h1, h.turned h3 h2 (numS_le h.le most), h3⟩
end Go.Proofs.YtmcfjlkjijaflaaGreatDoor
