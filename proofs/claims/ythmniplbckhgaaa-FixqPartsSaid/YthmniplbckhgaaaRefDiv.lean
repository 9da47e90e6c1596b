/-
  The reference's Divide.
-/
import Derived.Test.YthmniplbckhgaaaRefLess
import Derived.Test.YthmniplbckhgaaaRefTimes
import Derived.Test.YthmniplbckhgaaaRefDivMath
import Derived.BigRegion
namespace Go.Proofs.Ythmniplbckhgaaa
open Go.RowKit Go.Shelf

theorem num_nil (w : World) (m : Nat) : Num w (.slice none 0 0) 0 m :=
  ⟨[], .inl ⟨rfl, rfl⟩, fun k => by rw [dg_out (Nat.zero_le _)]; exact ⟨by omega, by omega⟩, rfl, Nat.zero_le _⟩

theorem num_one (w : World) {d : Int} (hd : Digit d) : Num (w.alloc (.cells #[.int .u64 d] 22)) (.slice (some ⟨w.heap.size, 0, none⟩) 1 1) d 1 := by
  refine ⟨[d], .inr ⟨w.heap.size, 0, 1, rfl, Nat.le_refl _, by unfold maxLen; omega, by simp, ?_⟩, ?_, ?_, Nat.le_refl _⟩
  · intro i hi
    match i, hi with
    | 0, _ => simp [go_sem, dg]
  · intro k
    match k with
    | 0 => exact hd
    | k + 1 => rw [dg_out (by simp)]; unfold Digit; omega
  · simp [val, pv, dg, P]

theorem owns_below {w w' : World} {base : Nat} {e : TypeId} {size : Nat} {v : Value} {n : Nat} {xs : List Value} (h : w.ownsRow base e size v n xs) (hb : Below w.heap.size w w') : w'.ownsRow base e size v n xs := by
  have hlt := h.lt
  refine ⟨h.1, ?_⟩
  rcases h.2 with h2 | ⟨g, cap, cur, h1, h2, h3, h4⟩
  · exact .inl h2
  · refine .inr ⟨g, cap, cur, h1, h2, ?_, h4⟩
    rw [hb.block g (by subst h1; exact (hlt g rfl).2)]
    exact h3

/-- A number is as it was behind a store into another block. -/
theorem Num.other {w : World} {v : Value} {X : Int} {m g : Nat} (h : Num w v X m) (hv : ∀ k, v.ownBlock = some k → g < k) (o : Nat) (u : Value) : Num (w.setCell ⟨g, o, none⟩ u).drew v X m := by
  obtain ⟨L, dl, h2, h3, h4⟩ := h.digs
  refine ⟨L, ?_, h2, h3, h4⟩
  rcases dl with hn | ⟨g', o', c, e1, e2, e3, e4, e5⟩
  · exact .inl hn
  · have hne := hv g' (by rw [e1]; rfl)
    refine .inr ⟨g', o', c, e1, e2, e3, by simpa [World.setCell] using e4, fun i hi => ?_⟩
    have := e5 i hi
    rw [← this]
    exact World.cell?_setCell_other _ _ _ _ (fun e => by have := congrArg Addr.block e; simp at this; omega)

/-- The slice with g digits makes R. -/
def Trim (w : World) (A : Option Addr) (c g : Nat) (R : Int) (m : Nat) : Prop := ∃ L : List Int, L.length = g ∧ Digs w (.slice A g c) L ∧ Good L ∧ val L = R ∧ g ≤ m
theorem Num.trim {w : World} {v : Value} {R : Int} {m : Nat} (h : Num w v R m) : ∃ A c g, v = .slice A g c ∧ Trim w A c g R m := by
  obtain ⟨L, dl, h2, h3, h4⟩ := h.digs
  obtain ⟨A, c, rfl⟩ := dl.form
  exact ⟨A, c, L.length, rfl, L, rfl, dl, h2, h3, h4⟩
theorem Trim.num {w : World} {A : Option Addr} {c g : Nat} {R : Int} {m : Nat} (h : Trim w A c g R m) : Num w (.slice A g c) R m := by
  obtain ⟨L, h1, h2, h3, h4, h5⟩ := h
  exact ⟨L, h2, h3, h4, by omega⟩
/-- The last digit, and what is left when it is 0. -/
theorem Trim.last {w : World} {A : Option Addr} {c l : Nat} {R : Int} {m : Nat} (h : Trim w A c (l + 1) R m) : ∃ g o d, A = some ⟨g, o, none⟩ ∧ l + 1 ≤ c ∧ c ≤ maxLen ∧ w.cell? ⟨g, o + l, none⟩ = some (.int .u64 d) ∧ (d = 0 → Trim w A c l R m) := by
  obtain ⟨L, h1, h2, h3, h4, h5⟩ := h
  rcases h2 with ⟨e1, _⟩ | ⟨g, o, c', e1, e2, e3, e4, e5⟩
  · simp at e1
  · simp only [Value.slice.injEq] at e1
    obtain ⟨rfl, _, rfl⟩ := e1
    refine ⟨g, o, dg L l, rfl, by omega, e3, e5 l (by omega), fun hz => ⟨L.take l, by simp; omega, .inr ⟨g, o, c, by simp; omega, by simp; omega, e3, e4, fun i hi => ?_⟩, fun k => ?_, ?_, by omega⟩⟩
    · have hil : i < l := by simp at hi; omega
      rw [e5 i (by omega)]
      unfold dg
      simp [List.getD_eq_getElem?_getD, hil]
    · by_cases hk : k < l
      · have e : dg (L.take l) k = dg L k := by
          unfold dg
          simp [List.getD_eq_getElem?_getD, hk]
        rw [e]
        exact h3 k
      · rw [dg_out (by simp; omega)]
        exact ⟨by omega, by omega⟩
    · rw [← h4]
      have e1 : val L = pv (dg L) (l + 1) := by unfold val; rw [h1]
      have e2 : val (L.take l) = pv (dg (L.take l)) l := by unfold val; rw [List.length_take, h1, Nat.min_eq_left (by omega)]
      rw [e1, e2]
      simp only [pv]
      rw [hz, Int.zero_mul, Int.add_zero]
      refine pv_congr l fun k hk => ?_
      unfold dg
      simp [List.getD_eq_getElem?_getD, hk]

set_option maxRecDepth 100000 in
set_option maxHeartbeats 1600000 in
theorem divide_any {w : World} {a b : Value} {X Y : Int} {p q : Nat} (ha : Num w a X p) (hb : Num w b Y q) (hp : p ≤ 20) (hq : q ≤ 100) (hY : 0 < Y) :
    Calls Try.prog 30 #[a, b] w fun e w' => ∃ v r, e = .returned (.tuple #[v, r]) ∧ Num w' v (X / Y) p ∧ Num w' r (X % Y) 1000 ∧ Below w.heap.size w w' := by
  obtain ⟨A, da, ga, va, la⟩ := ha.digs
  obtain ⟨Av, ac, rfl⟩ := da.form
  have HA := Lib.hid da.cellAt
  have VA := Lib.hid va
  clear da va ha
  obtain ⟨i0, hi0, hz0, hz1, hz2⟩ := info_parts word_info
  go_enter Try.func30, Try.ntmps30
  go_wp2_with (refine wpList_make_full _ rfl _ _ 45 rfl w.heap.size 22 i0 (.int .u64 0) 1 Try.underlying45 hi0 hz0 hz1 .i64 .i64 A.length A.length A.length rfl rfl rfl rfl ?d1 ?d2 (Nat.le_refl _) ?_)
  case d1 => rw [hz2]; omega
  case d2 => unfold maxLen; omega
  intro w1 hown1 hg1
  have hb1 : Below w.heap.size w w1 := (Below.refl _ _).grown hg1 (Nat.le_refl _) (by simp)
  go_wp2
  rw [toList_madeCells_one] at hown1
  have hown2 : w1.ownsRow w.heap.size 22 1 (.slice (some ⟨w.heap.size, 0, none⟩) A.length A.length) A.length ((List.replicate A.length (0 : Int)).map (Value.int .u64)) := by
    rw [List.map_replicate]
    exact hown1
  clear hown1 hg1
  have HNB := Lib.hid hb
  clear hb
  go_loopg [6, 8] A.length (fun g r s wr => ∃ (c : Int) (D : List Int) (R : Int), s = .int .i64 c ∧ -1 ≤ c ∧ c ≤ (A.length : Int) - 1 ∧ g = (c + 1).toNat ∧ Num wr r R (32 * (A.length - (c + 1).toNat) + q) ∧
      wr.ownsRow w.heap.size 22 1 (.slice (some ⟨w.heap.size, 0, none⟩) A.length A.length) A.length (D.map (Value.int .u64)) ∧ DivOut A Y (c + 1).toNat D R ∧ Below w.heap.size w wr)
  case atStart => exact ⟨_, _, _, rfl, by omega, by omega, by omega, num_nil _ _, hown2, by rw [show ((A.length : Int) - 1 + 1).toNat = A.length by omega]; exact DivOut.start hY, hb1⟩
  case round =>
    rename World => wo
    obtain ⟨c, D, R, rfl, hc0, hc1, rfl, hnum, hown, hst, hbel⟩ := hrel
    clear hown2 hb1
    by_cases h0 : 0 ≤ c
    · obtain ⟨i, rfl⟩ := Int.eq_ofNat_of_zero_le h0
      have hst1 := hst.enter_of ga (show ((i : Int) + 1).toNat = i + 1 by omega)
      have hnum1 : Num wo u6 R (32 * (A.length - (i + 1)) + q) := by
        rw [show i + 1 = ((i : Int) + 1).toNat by omega]
        exact hnum
      have hi : i < A.length := by omega
      clear hst hnum
      go_wp2
      go_loopg [6, 9] 16 (fun g r s w2 => ∃ (c : Int) (D : List Int) (R : Int), s = .int .i64 c ∧ -1 ≤ c ∧ c ≤ 15 ∧ g = (c + 1).toNat ∧ Num w2 r R (32 * (A.length - (i + 1)) + 2 * (15 - c).toNat + q) ∧
        w2.ownsRow w.heap.size 22 1 (.slice (some ⟨w.heap.size, 0, none⟩) A.length A.length) A.length (D.map (Value.int .u64)) ∧ DivSt A Y i (c + 1).toNat D R ∧ Below w.heap.size w w2)
      case atStart => exact ⟨15, D, R, rfl, by omega, by omega, rfl, hnum1, hown, hst1, hbel⟩
      case round =>
        rename World => w2
        clear hst1 hnum1 hown hbel hc0 hc1 h0
        obtain ⟨c, D', R', rfl, hc0, hc1, rfl, hnum, hown, hst, hbel⟩ := hrel
        by_cases h0 : 0 ≤ c
        · obtain ⟨k, rfl⟩ := Int.eq_ofNat_of_zero_le h0
          obtain ⟨ga', oa, rfl, hca⟩ := HA.out w2 hbel i hi
          have hk : k ≤ 15 := by omega
          have hst' : DivSt A Y i (k + 1) D' R' := by
            rw [show k + 1 = ((k : Int) + 1).toNat by omega]
            exact hst
          obtain ⟨bt, hbt⟩ : ∃ bt, bt = dg A i / tw k % 2 := ⟨_, rfl⟩
          have bt0 : 0 ≤ bt := by omega
          have bt1 : bt ≤ 1 := by omega
          have eb : (dg A i / 2 ^ k).tmod 2 = bt := by
            rw [hbt]
            exact Int.tmod_eq_emod_of_nonneg (Int.ediv_nonneg (ga i).1 (Int.le_of_lt (tw_pos k)))
          have HBT := Lib.hid hbt
          clear hbt hst
          have S1 := Lib.hid (sum_any hnum hnum (by omega) (by omega))
          go_wp2_with fail
          refine S1.out.mono ?_
          rintro e w3 ⟨v3, rfl, n3, b3⟩
          have hca3 := (b3.cell (p := ⟨ga', oa + i, none⟩) (World.block_lt_of_cell? w2 _ hca)).trans hca
          go_wp2_with fail
          have bal : Below w3.heap.size w3 (w3.alloc (.cells #[.int .u64 bt] 22)) := (Below.refl _ _).alloc (Nat.le_refl _) _
          have S2 := Lib.hid (sum_any (n3.below bal) (num_one w3 ⟨bt0, by omega⟩) (by omega) (by omega))
          refine S2.out.mono ?_
          rintro e w4 ⟨v4, rfl, n4, b4⟩
          have b34 := bal.trans (b4.mono bal.size)
          have hb4 := hbel.trans ((b3.trans (b34.mono b3.size)).mono hbel.size)
          have how4 := owns_below hown (b3.trans (b34.mono b3.size))
          have L1 := Lib.hid (less_any n4 (HNB.out.below hb4) (by omega) (by omega))
          clear S1 S2 b3 b4 bal b34 n3 hnum hown hbel hca hca3 eb
          go_wp2_with fail
          refine L1.out.mono ?_
          rintro e w4' ⟨rfl, rfl⟩
          by_cases hge : R' + R' + bt < Y
          · have hov : ordW (R' + R' + bt) Y < 0 := by rw [ordW_lt (by omega)]; decide
            have hlo := hst'.low (by omega) (by rw [← HBT.out]; omega)
            rw [← HBT.out] at hlo
            have nt : Num w4 v4 (2 * R' + bt) (32 * (A.length - (i + 1)) + 2 * (15 - (k : Int)).toNat + q + 2) := by
              rw [show 2 * R' + bt = R' + R' + bt by omega]
              exact n4.mono (by omega)
            have howf := how4
            have hbf := hb4
            clear hge
            obtain ⟨At, ct, gt, rfl, ht⟩ := nt.trim
            clear nt
            go_wp2
            go_loopg [6] gt (fun g r w' => w' = w4 ∧ ∃ (As : Option Addr) (cs : Nat), r = .slice As g cs ∧ Trim w4 As cs g (2 * R' + bt) (32 * (A.length - (i + 1)) + 2 * (15 - (k : Int)).toNat + q + 2))
            case atStart => exact ⟨rfl, _, _, rfl, ht⟩
            case round =>
              clear ht
              obtain ⟨rfl, A1, c1, rfl, ht⟩ := hrel
              cases gk with
              | zero =>
                go_wp2
                go_roundg ((k : Int) - 1 + 1).toNat
                case measure => omega
                case rel =>
                  refine ⟨(k : Int) - 1, _, 2 * R' + bt, rfl, by omega, by omega, rfl, ?_, howf, ?_, hbf⟩
                  · exact ht.num.mono (by omega)
                  · rw [show ((k : Int) - 1 + 1).toNat = k by omega]
                    exact hlo
              | succ l =>
                obtain ⟨gg, oo, dl, rfl, hlc, hcm, hcl, hz⟩ := ht.last
                unfold maxLen at hcm
                have hl0 : (0 : Int) < (l : Int) + 1 := by omega
                by_cases hdz : dl = 0
                · have ht2 := hz hdz
                  subst hdz
                  clear hz
                  go_wp2
                  go_roundg l
                  case measure => omega
                  case rel => exact ⟨rfl, _, _, rfl, ht2⟩
                · have hdb : (dl == 0) = false := by simpa using hdz
                  clear hz
                  go_wp2
                  go_roundg ((k : Int) - 1 + 1).toNat
                  case measure => omega
                  case rel =>
                    refine ⟨(k : Int) - 1, _, 2 * R' + bt, rfl, by omega, by omega, rfl, ?_, howf, ?_, hbf⟩
                    · exact ht.num.mono (by omega)
                    · rw [show ((k : Int) - 1 + 1).toNat = k by omega]
                      exact hlo
          · have hov : 0 ≤ ordW (R' + R' + bt) Y := ordW_ge hge
            have hhi := hst'.high hi (by omega) (by rw [← HBT.out]; omega)
            rw [← HBT.out] at hhi
            obtain ⟨rm0, rm1⟩ := hst'.room (by omega)
            have M1 := Lib.hid (minus_own n4 (HNB.out.below hb4) (by omega) (by omega))
            go_wp2_with fail
            refine M1.out.mono ?_
            rintro e w5 ⟨v5, Z5, rfl, n5, hz5, b5, own5⟩
            have how5 := owns_below how4 b5
            have hc5 : w5.cell? ⟨w.heap.size, i, none⟩ = some (.int .u64 (dg D' i)) := by
              rw [how5.cellAt i (by omega)]
              have hil : i < D'.length := by rw [hst'.len]; exact hi
              unfold dg
              simp [List.getD_eq_getElem?_getD, hil]
            have hf5 := how5.frozenAt i
            have ep : IntKind.u64.wrap (2 ^ k) = tw k := by
              rw [IntKind.wrap_u64]
              have := tw_pos k
              show tw k % 18446744073709551616 = tw k
              omega
            have eq2 : IntKind.u64.wrap (dg D' i + tw k) = dg D' i + tw k := by
              rw [IntKind.wrap_u64]
              have := tw_pos k
              omega
            have hz5' : Z5 = 2 * R' + bt - Y := by rw [hz5 (by omega)]; omega
            subst hz5'
            clear hz5
            have hszw := hb4.size
            have hsz1 : w.heap.size < w4.heap.size := (how4.lt _ rfl).2
            have nt : Num ((w5.setCell ⟨w.heap.size, i, none⟩ (.int .u64 (dg D' i + tw k))).drew) v5 (2 * R' + bt - Y) (32 * (A.length - (i + 1)) + 2 * (15 - (k : Int)).toNat + q + 2) :=
              (n5.other (g := w.heap.size) (fun j hj => by have := own5 j hj; omega) i _).mono (by omega)
            have howf : ((w5.setCell ⟨w.heap.size, i, none⟩ (.int .u64 (dg D' i + tw k))).drew).ownsRow w.heap.size 22 1 (.slice (some ⟨w.heap.size, 0, none⟩) A.length A.length) A.length ((D'.set i (dg D' i + tw k)).map (Value.int .u64)) := by
              rw [List.map_set]
              exact (how5.stored i _).1
            have hbf : Below w.heap.size w ((w5.setCell ⟨w.heap.size, i, none⟩ (.int .u64 (dg D' i + tw k))).drew) :=
              ((hb4.trans (b5.mono hszw)).setCell (Nat.le_refl _) _).drew
            go_wp2
            go_region
            clear ep eq2 hc5 hf5 how5 b5 own5 n5 rm0 rm1
            generalize ((w5.setCell ⟨w.heap.size, i, none⟩ (.int .u64 (dg D' i + tw k))).drew) = w6 at *
            obtain ⟨At, ct, gt, rfl, ht⟩ := nt.trim
            clear nt
            go_wp2
            go_loopg [6] gt (fun g r w' => w' = w6 ∧ ∃ (As : Option Addr) (cs : Nat), r = .slice As g cs ∧ Trim w6 As cs g (2 * R' + bt - Y) (32 * (A.length - (i + 1)) + 2 * (15 - (k : Int)).toNat + q + 2))
            case atStart => exact ⟨rfl, _, _, rfl, ht⟩
            case round =>
              clear ht
              obtain ⟨rfl, A1, c1, rfl, ht⟩ := hrel
              cases gk with
              | zero =>
                go_wp2
                go_roundg ((k : Int) - 1 + 1).toNat
                case measure => omega
                case rel =>
                  refine ⟨(k : Int) - 1, _, 2 * R' + bt - Y, rfl, by omega, by omega, rfl, ?_, howf, ?_, hbf⟩
                  · exact ht.num.mono (by omega)
                  · rw [show ((k : Int) - 1 + 1).toNat = k by omega]
                    exact hhi
              | succ l =>
                obtain ⟨gg, oo, dl, rfl, hlc, hcm, hcl, hz⟩ := ht.last
                unfold maxLen at hcm
                have hl0 : (0 : Int) < (l : Int) + 1 := by omega
                by_cases hdz : dl = 0
                · have ht2 := hz hdz
                  subst hdz
                  clear hz
                  go_wp2
                  go_roundg l
                  case measure => omega
                  case rel => exact ⟨rfl, _, _, rfl, ht2⟩
                · have hdb : (dl == 0) = false := by simpa using hdz
                  clear hz
                  go_wp2
                  go_roundg ((k : Int) - 1 + 1).toNat
                  case measure => omega
                  case rel =>
                    refine ⟨(k : Int) - 1, _, 2 * R' + bt - Y, rfl, by omega, by omega, rfl, ?_, howf, ?_, hbf⟩
                    · exact ht.num.mono (by omega)
                    · rw [show ((k : Int) - 1 + 1).toNat = k by omega]
                      exact hhi
        · have hcm : c = -1 := by omega
          subst hcm
          have hout := DivSt.leave hi hst
          have hnumf := hnum.mono (m' := 32 * (A.length - i) + q) (by omega)
          clear hst hnum
          go_wp2
          go_roundg ((i : Int) - 1 + 1).toNat
          case measure => omega
          case rel => exact ⟨(i : Int) - 1, D', R', rfl, by omega, by omega, rfl, by rw [show ((i : Int) - 1 + 1).toNat = i by omega]; exact hnumf, hown, by rw [show ((i : Int) - 1 + 1).toNat = i by omega]; exact hout, hbel⟩
    · have hcm : c = -1 := by omega
      subst hcm
      have hfin := DivOut.fin hst
      rw [VA.out] at hfin
      have HF := Lib.hid hfin
      have hlen := hst.len
      have HLn := Lib.hid hlen
      have hgood := hst.good
      clear hfin hlen hst
      go_wp2
      go_ret2
      have hl := HLn.out
      refine ⟨_, _, rfl, ⟨D, Digs.owned hown, hgood, HF.out.1, by omega⟩, ?_, hbel⟩
      rw [← HF.out.2]
      exact hnum.mono (by omega)
end Go.Proofs.Ythmniplbckhgaaa
