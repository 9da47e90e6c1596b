/-
  The program's reader of acts: acts; Parse.
-/
import Derived.Test.YtmcfjlkjijaflaaDoorGXB
import Derived.Test.YtmcfjlkjijaflaaDoorRdParse
import Derived.Test.YtmcfjlkjijaflaaDoorAcEach
namespace Go.Proofs.YtmcfjlkjijaflaaDoor
open Go.RowKit

/-- What readActs leaves: its row, and the reader. -/
def AcsP (L : List Wd) (A : Except Bad (List Ac × Nat)) (w : World) (b : Nat) (ao : Option Addr) (cap : Nat) (r : Ending) (w' : World) : Prop :=
  ∃ (v : Value) (out : List Ac) (c : Nat) (e : Int), r = .returned v ∧ w'.heap[b]? = some (.cells (rdC ao L.length cap c e) 115 (0, 0)) ∧ Turned [b] w w' ∧ ARow w.heap.size w' v out ∧ c ≤ L.length ∧
    ((e = 0 ∧ A = .ok (out, c)) ∨ (e ≠ 0 ∧ A = .error (c, e)))
/-- The loop's state. -/
structure AcsW (L : List Wd) (A : Except Bad (List Ac × Nat)) (w wr : World) (b : Nat) (ao : Option Addr) (cap c : Nat) (e : Int) (out : List Ac) (v : Value) : Prop where
  st : AcsI L A c e out
  rd : wr.heap[b]? = some (.cells (rdC ao L.length cap c e) 115 (0, 0))
  tur : Turned [b] w wr
  row : ARow w.heap.size wr v out
  le : c ≤ L.length
  bw : b < w.heap.size
theorem AcsW.below {L : List Wd} {A : Except Bad (List Ac × Nat)} {w wr wr' : World} {b : Nat} {ao : Option Addr} {cap c : Nat} {e : Int} {out : List Ac} {v : Value} (h : AcsW L A w wr b ao cap c e out v) (hb : Below wr.heap.size wr wr') : AcsW L A w wr' b ao cap c e out v :=
  ⟨h.st, (hb.block _ (lt_of_block h.rd)).trans h.rd, h.tur.trans (turned_below hb [b]) (Newer.refl _ _), row_below h.row hb, h.le, h.bw⟩
theorem arow_turned {w w' : World} {b base : Nat} {e : TypeId} {size : Nat} {v : Value} {n : Nat} {xs : List Value} (h : w.ownsRow base e size v n xs) (t : Turned [b] w w') (hb : b < base) : w'.ownsRow base e size v n xs :=
  row_same h fun k hk hl => t.block k hl (by simp; omega)
theorem AcsW.push {L : List Wd} {A : Except Bad (List Ac × Nat)} {w wr w1 w4 : World} {b : Nat} {ao : Option Addr} {cap c c' : Nat} {e e' : Int} {out : List Ac} {v v' : Value} {o : Ac} (h : AcsW L A w wr b ao cap c e out v)
    (t : Turned [b] wr w1) (hr : w1.heap[b]? = some (.cells (rdC ao L.length cap c' e') 115 (0, 0))) (hst : AcsI L A c' e' (out ++ [o])) (hle : c' ≤ L.length)
    (hown : w4.ownsRow w.heap.size 69 5 v' (out.length + 1) (acsC out ++ acC o)) (hg : w1.grownBy w4 v.ownBlock) : AcsW L A w w4 b ao cap c' e' (out ++ [o]) v' := by
  have hrow1 := arow_turned h.row t h.bw
  have hb : Below w.heap.size w1 w4 := app_below (Below.refl _ _) (Nat.le_trans h.tur.size t.size) (Nat.le_refl _) hrow1 hg
  have t2 := h.tur.trans t (Newer.refl _ _)
  refine ⟨hst, (hb.block _ h.bw).trans hr, ⟨hb.os.trans t2.os, hb.tape.trans t2.tape, hb.output.trans t2.output, Nat.le_trans t2.size hb.size, fun k hk hx => (hb.block k hk).trans (t2.block k hk hx)⟩, ?_, hle, h.bw⟩
  unfold ARow
  rw [acsC_snoc, List.length_append, List.length_singleton]
  exact hown
theorem AcsW.fin {L : List Wd} {A : Except Bad (List Ac × Nat)} {w wr : World} {b : Nat} {ao : Option Addr} {cap c : Nat} {e : Int} {out : List Ac} {v : Value} (h : AcsW L A w wr b ao cap c e out v)
    (he : (e = 0 ∧ A = .ok (out, c)) ∨ (e ≠ 0 ∧ A = .error (c, e))) : AcsP L A w b ao cap (.returned v) wr :=
  ⟨v, out, c, e, rfl, h.rd, h.tur, h.row, h.le, he⟩
theorem act_at (w : World) (a b c d e : Value) : ∀ j u, ([a, b, c, d, e] : List Value)[j]? = some u → (w.alloc (.cells #[a, b, c, d, e] 69)).cell? ((⟨w.heap.size, 0, none⟩ : Addr).add j) = some u := by
  intro j u hu
  have h := heap_alloc_new w (.cells #[a, b, c, d, e] 69)
  have hj : j < 5 := by
    have := (List.getElem?_eq_some_iff.1 hu).1
    simpa using this
  rw [Addr.add_lit, Nat.zero_add]
  simp only [World.cell?, h]
  simpa using hu
def lenA : Value → Nat
  | .slice _ n _ => n
  | _ => 0
set_option maxRecDepth 100000 in
set_option maxHeartbeats 12800000 in
theorem acts_gen {A : Except Bad (List Ac × Nat)} {w : World} {b : Nat} {ao : Option Addr} {bw off cap : Nat} {L : List Wd} {c0 : Nat} {e0 : Int} (h : RdI w b ao bw off cap L c0 e0) (hL : Clean L) (hN : In9 L) (hA : AcsI L A c0 e0 []) :
    Calls Tryd.prog 57 #[.pointer (some ⟨b, 0, none⟩)] w (AcsP L A w b ao cap) := by
  obtain ⟨i0, hi0, hz0, hz1, hz2⟩ := info_parts act_info
  have HRT := Lib.hid (fun V c' e' (t : Turned [b] w V) hr hc => h.turned (c' := c') (e' := e') t hr hc)
  have HCL := Lib.hid hL
  have HIN := Lib.hid hN
  have HST : Hid (AcsW L A w w b ao cap c0 e0 [] (.slice none 0 0)) := ⟨hA, h.rd, Turned.refl _ _, World.ownsRow_nil _ _ _ _, h.le, lt_of_block h.rd⟩
  clear hA h hL hN
  go_enter Tryd.func57, Tryd.ntmps57
  go_wp2_with fail
  go_loopw [3] (fun l' wr => ∃ (c : Nat) (e : Int) (out : List Ac), Hid (AcsW L A w wr b ao cap c e out l')) (fun l' _ => 4001 - lenA l')
  case atStart => exact ⟨c0, e0, [], HST⟩
  case round =>
    obtain ⟨c, e, out, HW⟩ := hrel
    obtain ⟨aov, capv, hv, _⟩ := ownsRow_shape HW.out.row
    subst hv
    obtain ⟨m, hm⟩ : ∃ m, out.length = m := ⟨_, rfl⟩
    have HM := Lib.hid hm
    obtain ⟨hl1, hl0⟩ := HW.out.st.len
    rw [hm] at HW hl1 hl0 ⊢
    by_cases he : e = 0
    · subst he
      have hl0 := hl0 rfl
      have HRI := Lib.hid (fun V (hb : Below wr.heap.size wr V) => HRT.out V c 0 (HW.out.below hb).tur (HW.out.below hb).rd HW.out.le)
      have HGL := Lib.hid (goes_live HW.out.rd)
      by_cases hc : c < L.length
      · have hen := ends_any (HRI.out wr (Below.refl _ _))
        rw [decide_eq_false (by omega)] at hen
        have HEN := Lib.hid hen
        have HNX := Lib.hid (fun V (hb : Below wr.heap.size wr V) => next_any (HRI.out V hb))
        have hkd := fun W => akindof_any (nextR L c) W
        obtain ⟨kq, hkq⟩ : ∃ kq, kindA (nextR L c) = kq := ⟨_, rfl⟩
        simp only [hkq] at hkd
        obtain ⟨yv, hyv⟩ : ∃ yv, wdV (nextR L c) = yv := ⟨_, rfl⟩
        simp only [hyv] at HNX hkd
        have HKD := Lib.hid hkd
        have hstep := fun e1 (he : e1 = if out.length = 4000 ∧ kindA (nextR L c) ≠ 0 then (6 : Int) else 0) => HW.out.st.step HCL.out HIN.out hc he
        rw [HM.out, hkq] at hstep
        have HQL := Lib.hid (fun e1 => acQ_le (L := L) (c := c) (e := e1) HW.out.le)
        have HOP := Lib.hid (fun V e1 (hV : RdI V b ao bw off cap L c e1) => act_any hV HCL.out HIN.out)
        have hlive : ∀ (hx : ¬ (m = 4000 ∧ kq ≠ 0)), ∃ c' e' o1 o2 o3 o4 o5, c' ≤ L.length ∧ AcsI L A c' e' (out ++ [(o1, o2, o3, o4, o5)]) ∧ (∀ V, RdI V b ao bw off cap L c 0 → Calls Tryd.prog 81 #[.pointer (some ⟨b, 0, none⟩)] V (StepP (.agg #[.int .i64 o1, .int .i64 o2, .int .i64 o3, .int .i64 o4, .int .i64 o5]) V b ao L.length cap c' e')) := fun hx => by
          have hs := hstep 0 (by rw [if_neg hx])
          have hq := HQL.out 0
          have ho := fun V hV => HOP.out V 0 hV
          obtain ⟨⟨⟨o1, o2, o3, o4, o5⟩, c', e'⟩, hoq⟩ : ∃ x, acQ L c 0 = x := ⟨_, rfl⟩
          rw [hoq] at hs hq
          simp only [hoq] at ho
          exact ⟨c', e', o1, o2, o3, o4, o5, hq, hs, ho⟩
        have hdead : (m = 4000 ∧ kq ≠ 0) → ∃ c' e' o1 o2 o3 o4 o5, c' ≤ L.length ∧ AcsI L A c' e' (out ++ [(o1, o2, o3, o4, o5)]) ∧ (∀ V, RdI V b ao bw off cap L c 6 → Calls Tryd.prog 81 #[.pointer (some ⟨b, 0, none⟩)] V (StepP (.agg #[.int .i64 o1, .int .i64 o2, .int .i64 o3, .int .i64 o4, .int .i64 o5]) V b ao L.length cap c' e')) := fun hx => by
          have hs := hstep 6 (by rw [if_pos hx])
          have hq := HQL.out 6
          have ho := fun V hV => HOP.out V 6 hV
          obtain ⟨⟨⟨o1, o2, o3, o4, o5⟩, c', e'⟩, hoq⟩ : ∃ x, acQ L c 6 = x := ⟨_, rfl⟩
          rw [hoq] at hs hq
          simp only [hoq] at ho
          exact ⟨c', e', o1, o2, o3, o4, o5, hq, hs, ho⟩
        clear hstep hkd hen hyv hkq hm
        by_cases h4 : m = 4000
        · by_cases hk0 : kq ≠ 0
          · obtain ⟨c', e', o1, o2, o3, o4, o5, hqx, hsx, hox⟩ := hdead ⟨h4, hk0⟩
            have HQX := Lib.hid hqx
            have HSX := Lib.hid hsx
            have HOX := Lib.hid hox
            clear hlive hdead hqx hsx hox
            have kb : (((kq : Nat) : Int) != 0) = true := by simp; omega
            subst h4
            go_wp2_with fail
            with_reducible refine HGL.out.mono ?_
            rintro r wr ⟨rfl, rfl⟩
            go_wp2_with fail
            with_reducible refine HEN.out.mono ?_
            rintro r w0 ⟨rfl, ne, hwe⟩
            have HB0 : Hid (Below wr.heap.size wr w0) := Lib.hid (by rw [hwe]; exact below_drewN (Below.refl _ _) ne)
            clear hwe
            go_wp2_with fail
            with_reducible refine (HNX.out _ HB0.out).mono ?_
            rintro r w3 ⟨rfl, hb3⟩
            have HB3 := Lib.hid (HB0.out.trans (hb3.mono HB0.out.size))
            clear hb3
            go_wp2_with fail
            with_reducible refine (HKD.out _).mono ?_
            rintro r w4 ⟨rfl, hb4⟩
            have HB4 := Lib.hid (HB3.out.trans (hb4.mono HB3.out.size))
            clear hb4
            have HFL := Lib.hid (fail_live (HW.out.below HB4.out).rd 6)
            go_wp2_with fail
            with_reducible refine HFL.out.mono ?_
            rintro r w7 ⟨rfl, hr, ht⟩
            have HT7 := Lib.hid ((turned_below HB4.out [b]).trans ht (Newer.refl _ _))
            have HR7 := Lib.hid (HRT.out _ c 6 (HW.out.tur.trans HT7.out (Newer.refl _ _)) hr HW.out.le)
            clear hr ht
            go_wp2_with fail
            with_reducible refine (HOX.out _ HR7.out).mono ?_
            rintro r w5 ⟨rfl, hr, ht⟩
            have HR5 := Lib.hid hr
            have HT5 := Lib.hid ht
            clear hr ht
            have HT6 := Lib.hid (HT7.out.trans HT5.out (Newer.refl _ _))
            go_wp2_with (at_builtin; refine wpList_append_own _ rfl _ _ 52 rfl w.heap.size 69 i0 (.agg #[.int .i64 0, .int .i64 0, .int .i64 0, .int .i64 0, .int .i64 0]) 5 40 Tryd.underlying52 hi0 hz0 hz1 hz2 rfl (by decide) _ _ _ rfl (row_below (arow_turned HW.out.row HT6.out HW.out.bw) ((Below.refl _ _).alloc (Nat.le_refl _) _)) ⟨_, 0, none⟩ 1 1 [.int .i64 o1, .int .i64 o2, .int .i64 o3, .int .i64 o4, .int .i64 o5] rfl rfl ?c1 ?c2 ?c3 ?c4 ?c5 ?_)
            case c1 => exact act_at _ _ _ _ _ _
            case c2 => exact acC_one (o1, o2, o3, o4, o5)
            case c3 => (have := HM.out; unfold maxLen; omega)
            case c4 => (have := HM.out; omega)
            case c5 => exact Nat.le_trans (Nat.le_trans HW.out.tur.size HT6.out.size) (by simp)
            intro v' w6 hown hgrow _
            obtain ⟨ao4, cap4, hv4, _⟩ := ownsRow_shape hown
            subst hv4
            have HP := Lib.hid (AcsW.push HW.out (HT6.out.alloc (.cells #[.int .i64 o1, .int .i64 o2, .int .i64 o3, .int .i64 o4, .int .i64 o5] 69)) ((Below.heap_alloc _ _ _ (lt_of_block HR5.out)).trans HR5.out) HSX.out HQX.out hown hgrow)
            clear hown hgrow
            go_wp2
            go_roundw
            case rel => exact ⟨_, _, _, HP⟩
            case measure => (have := HM.out; simp [lenA]; omega)
          · obtain ⟨c', e', o1, o2, o3, o4, o5, hqx, hsx, hox⟩ := hlive (fun h => hk0 h.2)
            have HQX := Lib.hid hqx
            have HSX := Lib.hid hsx
            have HOX := Lib.hid hox
            clear hlive hdead hqx hsx hox
            have k0 : kq = 0 := by simpa using hk0
            subst k0
            subst h4
            clear hk0
            go_wp2_with fail
            with_reducible refine HGL.out.mono ?_
            rintro r wr ⟨rfl, rfl⟩
            go_wp2_with fail
            with_reducible refine HEN.out.mono ?_
            rintro r w0 ⟨rfl, ne, hwe⟩
            have HB0 : Hid (Below wr.heap.size wr w0) := Lib.hid (by rw [hwe]; exact below_drewN (Below.refl _ _) ne)
            clear hwe
            go_wp2_with fail
            with_reducible refine (HNX.out _ HB0.out).mono ?_
            rintro r w3 ⟨rfl, hb3⟩
            have HB3 := Lib.hid (HB0.out.trans (hb3.mono HB0.out.size))
            clear hb3
            go_wp2_with fail
            with_reducible refine (HKD.out _).mono ?_
            rintro r w4 ⟨rfl, hb4⟩
            have HB4 := Lib.hid (HB3.out.trans (hb4.mono HB3.out.size))
            clear hb4
            have HT7 := Lib.hid (turned_below HB4.out [b])
            go_wp2_with fail
            with_reducible refine (HOX.out _ (HRI.out _ HB4.out)).mono ?_
            rintro r w5 ⟨rfl, hr, ht⟩
            have HR5 := Lib.hid hr
            have HT5 := Lib.hid ht
            clear hr ht
            have HT6 := Lib.hid (HT7.out.trans HT5.out (Newer.refl _ _))
            go_wp2_with (at_builtin; refine wpList_append_own _ rfl _ _ 52 rfl w.heap.size 69 i0 (.agg #[.int .i64 0, .int .i64 0, .int .i64 0, .int .i64 0, .int .i64 0]) 5 40 Tryd.underlying52 hi0 hz0 hz1 hz2 rfl (by decide) _ _ _ rfl (row_below (arow_turned HW.out.row HT6.out HW.out.bw) ((Below.refl _ _).alloc (Nat.le_refl _) _)) ⟨_, 0, none⟩ 1 1 [.int .i64 o1, .int .i64 o2, .int .i64 o3, .int .i64 o4, .int .i64 o5] rfl rfl ?c1 ?c2 ?c3 ?c4 ?c5 ?_)
            case c1 => exact act_at _ _ _ _ _ _
            case c2 => exact acC_one (o1, o2, o3, o4, o5)
            case c3 => (have := HM.out; unfold maxLen; omega)
            case c4 => (have := HM.out; omega)
            case c5 => exact Nat.le_trans (Nat.le_trans HW.out.tur.size HT6.out.size) (by simp)
            intro v' w6 hown hgrow _
            obtain ⟨ao4, cap4, hv4, _⟩ := ownsRow_shape hown
            subst hv4
            have HP := Lib.hid (AcsW.push HW.out (HT6.out.alloc (.cells #[.int .i64 o1, .int .i64 o2, .int .i64 o3, .int .i64 o4, .int .i64 o5] 69)) ((Below.heap_alloc _ _ _ (lt_of_block HR5.out)).trans HR5.out) HSX.out HQX.out hown hgrow)
            clear hown hgrow
            go_wp2
            go_roundw
            case rel => exact ⟨_, _, _, HP⟩
            case measure => (have := HM.out; simp [lenA]; omega)
        · obtain ⟨c', e', o1, o2, o3, o4, o5, hqx, hsx, hox⟩ := hlive (fun h => h4 h.1)
          have HQX := Lib.hid hqx
          have HSX := Lib.hid hsx
          have HOX := Lib.hid hox
          clear hlive hdead hqx hsx hox
          have h4b : ((m : Int) == 4000) = false := by simp; omega
          go_wp2_with fail
          with_reducible refine HGL.out.mono ?_
          rintro r wr ⟨rfl, rfl⟩
          go_wp2_with fail
          with_reducible refine HEN.out.mono ?_
          rintro r w0 ⟨rfl, ne, hwe⟩
          have HB0 : Hid (Below wr.heap.size wr w0) := Lib.hid (by rw [hwe]; exact below_drewN (Below.refl _ _) ne)
          clear hwe
          have HT7 := Lib.hid (turned_below HB0.out [b])
          go_wp2_with fail
          with_reducible refine (HOX.out _ (HRI.out _ HB0.out)).mono ?_
          rintro r w5 ⟨rfl, hr, ht⟩
          have HR5 := Lib.hid hr
          have HT5 := Lib.hid ht
          clear hr ht
          have HT6 := Lib.hid (HT7.out.trans HT5.out (Newer.refl _ _))
          go_wp2_with (at_builtin; refine wpList_append_own _ rfl _ _ 52 rfl w.heap.size 69 i0 (.agg #[.int .i64 0, .int .i64 0, .int .i64 0, .int .i64 0, .int .i64 0]) 5 40 Tryd.underlying52 hi0 hz0 hz1 hz2 rfl (by decide) _ _ _ rfl (row_below (arow_turned HW.out.row HT6.out HW.out.bw) ((Below.refl _ _).alloc (Nat.le_refl _) _)) ⟨_, 0, none⟩ 1 1 [.int .i64 o1, .int .i64 o2, .int .i64 o3, .int .i64 o4, .int .i64 o5] rfl rfl ?c1 ?c2 ?c3 ?c4 ?c5 ?_)
          case c1 => exact act_at _ _ _ _ _ _
          case c2 => exact acC_one (o1, o2, o3, o4, o5)
          case c3 => (have := HM.out; unfold maxLen; omega)
          case c4 => (have := HM.out; omega)
          case c5 => exact Nat.le_trans (Nat.le_trans HW.out.tur.size HT6.out.size) (by simp)
          intro v' w6 hown hgrow _
          obtain ⟨ao4, cap4, hv4, _⟩ := ownsRow_shape hown
          subst hv4
          have HP := Lib.hid (AcsW.push HW.out (HT6.out.alloc (.cells #[.int .i64 o1, .int .i64 o2, .int .i64 o3, .int .i64 o4, .int .i64 o5] 69)) ((Below.heap_alloc _ _ _ (lt_of_block HR5.out)).trans HR5.out) HSX.out HQX.out hown hgrow)
          clear hown hgrow
          go_wp2
          go_roundw
          case rel => exact ⟨_, _, _, HP⟩
          case measure => (have := HM.out; simp [lenA]; omega)
      · have hen := ends_any (HRI.out wr (Below.refl _ _))
        rw [decide_eq_true (by omega)] at hen
        have HEN := Lib.hid hen
        have hA := HW.out.st.last HW.out.le (by omega)
        have HA := Lib.hid hA
        clear hA hen hm
        go_wp2_with fail
        with_reducible refine HGL.out.mono ?_
        rintro r wr ⟨rfl, rfl⟩
        go_wp2_with fail
        with_reducible refine HEN.out.mono ?_
        rintro r w0 ⟨rfl, ne, hwe⟩
        have HB0 : Hid (Below wr.heap.size wr w0) := Lib.hid (by rw [hwe]; exact below_drewN (Below.refl _ _) ne)
        clear hwe
        have HFIN := Lib.hid ((HW.out.below HB0.out).fin (.inl ⟨rfl, HA.out⟩))
        go_wp2
        go_ret
        exact HFIN.out
    · have HGD := Lib.hid (goes_dead he HW.out.rd)
      have HFIN := Lib.hid (HW.out.fin (.inr ⟨he, HW.out.st.dead he⟩))
      clear he hm
      go_wp2_with fail
      with_reducible refine HGD.out.mono ?_
      rintro r wr ⟨rfl, rfl⟩
      go_wp2
      go_ret
      exact HFIN.out
end Go.Proofs.YtmcfjlkjijaflaaDoor
