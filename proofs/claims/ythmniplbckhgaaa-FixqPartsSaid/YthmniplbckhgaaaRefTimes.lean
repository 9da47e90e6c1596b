/-
  The reference's Times.
-/
import Derived.Test.YthmniplbckhgaaaRefSum
import Derived.Deep.LoopGhost
namespace Go.Proofs.Ythmniplbckhgaaa
open Go.RowKit Go.Shelf

theorem Digs.cellAt {w : World} {A : Option Addr} {c : Nat} {L : List Int} (h : Digs w (.slice A L.length c) L) : ∀ wr : World, Below w.heap.size w wr → ∀ k, k < L.length → ∃ g o, A = some ⟨g, o, none⟩ ∧ wr.cell? ⟨g, o + k, none⟩ = some (.int .u64 (dg L k)) := by
  intro wr hb k hk
  rcases h.below hb with ⟨_, h2⟩ | ⟨g, o, c', h1, _, _, _, h5⟩
  · subst h2; simp at hk
  · simp only [Value.slice.injEq] at h1
    exact ⟨g, o, h1.1, h5 k hk⟩

theorem cell_new_drewN (w : World) (n : Nat) (x : Value) (t : TypeId) : ((w.drewN n).alloc (.cells #[x] t)).cell? ⟨w.heap.size, 0, none⟩ = some x :=
  World.cell?_alloc_at (w := w.drewN n) #[x] t w.heap.size 0 rfl

theorem num_zero (w : World) : Num (w.alloc (.cells #[.int .u64 0] 22)) (.slice (some ⟨w.heap.size, 0, none⟩) 1 1) 0 1 := by
  refine ⟨[0], .inr ⟨w.heap.size, 0, 1, rfl, Nat.le_refl _, by unfold maxLen; omega, by simp, ?_⟩, ?_, ?_, Nat.le_refl _⟩
  · intro i hi
    match i, hi with
    | 0, _ => simp [go_sem, dg]
  · intro k
    match k with
    | 0 => unfold Digit dg; simp
    | k + 1 => rw [dg_out (by simp)]; unfold Digit; omega
  · simp [val, pv, dg]

set_option maxHeartbeats 1600000 in
theorem times_any {w : World} {a b : Value} {X Y : Int} {p q : Nat} (ha : Num w a X p) (hb : Num w b Y q) (hp : p ≤ 100) (hq : q ≤ 100) :
    Calls Try.prog 28 #[a, b] w fun e w' => ∃ v, e = .returned v ∧ Num w' v (X * Y) (p + q + 1) ∧ Below w.heap.size w w' := by
  obtain ⟨A, da, ga, va, la⟩ := ha.digs
  obtain ⟨B, db, gb, vb, lb⟩ := hb.digs
  obtain ⟨Av, ac, rfl⟩ := da.form
  obtain ⟨Bv, bc, rfl⟩ := db.form
  clear ha hb
  have HA := Lib.hid da.cellAt
  have HB := Lib.hid db.cellAt
  have VA := Lib.hid va
  have VB := Lib.hid vb
  clear da db va vb
  obtain ⟨i0, hi0, hz0, hz1, hz2⟩ := info_parts word_info
  go_enter Try.func28, Try.ntmps28
  go_wp2
  go_loopg [5, 6] B.length (fun g v s wr => ∃ i : Nat, i ≤ B.length ∧ g = B.length - i ∧ s = .int .i64 i ∧ Num wr v (X * pv (dg B) i) (p + i + 1) ∧ Below w.heap.size w wr)
  case atStart => exact ⟨0, Nat.zero_le _, rfl, rfl, by simpa [pv] using (num_zero w).mono (by omega), (Below.refl _ _).alloc (Nat.le_refl _) _⟩
  case round =>
    rename World => wo
    obtain ⟨i, hi, rfl, rfl, hnum, hbel⟩ := hrel
    by_cases hlt : i < B.length
    · have hiz : (i : Int) < (B.length : Int) := by omega
      go_wp2_with (refine wpList_make_full _ rfl _ _ 45 rfl wo.heap.size 22 i0 (.int .u64 0) 1 Try.underlying45 hi0 hz0 hz1 .i64 .i64 i i i rfl rfl rfl rfl ?d1 ?d2 (Nat.le_refl _) ?_)
      case d1 => rw [hz2]; omega
      case d2 => unfold maxLen; omega
      intro w1 hown1 hg1
      rw [toList_madeCells_one, row_zero A (dg B i) i] at hown1
      have hb1 : Below wo.heap.size wo w1 := (Below.refl _ _).grown hg1 (Nat.le_refl _) (by simp)
      clear hg1
      go_wp2
      go_loopg [7, 8, 9] A.length (fun g r c s w2 => ∃ k : Nat, k ≤ A.length ∧ g = A.length - k ∧ s = .int .i64 k ∧ c = .int .u64 (mulC A (dg B i) k) ∧ w2.ownsRow wo.heap.size 22 1 r (i + k) (((List.range (i + k)).map (rowF A (dg B i) i)).map (Value.int .u64)) ∧ Below wo.heap.size wo w2)
      case atStart => exact ⟨0, Nat.zero_le _, rfl, rfl, rfl, hown1, hb1⟩
      case round =>
        rename World => w2
        obtain ⟨k, hk, rfl, rfl, rfl, hown, hb2⟩ := hrel
        have hbw := hbel.trans (hb2.mono hbel.size)
        clear hown1 hb1
        by_cases hlk : k < A.length
        · have hkz : (k : Int) < (A.length : Int) := by omega
          obtain ⟨ga', oa, rfl, hca⟩ := HA.out w2 hbw k hlk
          obtain ⟨gb', ob, rfl, hcb⟩ := HB.out w2 hbw i hlt
          obtain ⟨m0, m1⟩ := mul_digit (ga k) (gb i)
          obtain ⟨c0, c1⟩ := mulC_bd ga (gb i) k
          have e1 : IntKind.u64.wrap (dg A k * dg B i) = dg A k * dg B i := by rw [IntKind.wrap_u64]; omega
          have e2 : IntKind.u64.wrap (dg A k * dg B i + mulC A (dg B i) k) = dg A k * dg B i + mulC A (dg B i) k := by rw [IntKind.wrap_u64]; omega
          go_wp2
          go_quiet (fail)
          clear e1 e2 hca hcb
          have hownq : (w2.drewN nq).ownsRow wo.heap.size 22 1 u7 (i + k) (((List.range (i + k)).map (rowF A (dg B i) i)).map (Value.int .u64)) := hown
          have hbq : Below wo.heap.size wo (w2.drewN nq) := ⟨hb2.os, hb2.tape, hb2.output, hb2.size, hb2.block⟩
          go_wp2_with (at_builtin; refine wpList_append_own _ rfl _ _ 45 rfl wo.heap.size 22 i0 (.int .u64 0) 1 8 Try.underlying45 hi0 hz0 hz1 hz2 rfl (by decide) _ _ _ rfl (hownq.alloc _) ⟨w2.heap.size, 0, none⟩ 1 1 [.int .u64 ((dg A k * dg B i + mulC A (dg B i) k) % 65536)] rfl rfl ?c1 ?c2 ?c3 ?c4 ?c5 ?_)
          case c1 =>
            intro j u hj
            match j, hj with
            | 0, hj => simp at hj; subst hj; simp [Addr.add]; exact cell_new_drewN _ _ _ _
          case c2 => intro u hu; simp at hu; subst hu; rfl
          case c3 => unfold maxLen; omega
          case c4 => omega
          case c5 => have := hb2.size; simp; omega
          intro v' w3 hown2 hgrow _
          have hb3 := app_below hbq hownq hgrow
          have hown3 : w3.ownsRow wo.heap.size 22 1 v' (i + (k + 1)) (((List.range (i + (k + 1))).map (rowF A (dg B i) i)).map (Value.int .u64)) := by
            rw [← Nat.add_assoc, range_succ_map, List.map_append, List.map_map]
            have e : rowF A (dg B i) i (i + k) = mulD A (dg B i) k := by
              unfold rowF
              rw [if_neg (by omega), show i + k - i = k by omega]
            rw [e]
            exact hown2
          clear hown2 hgrow hown hownq hbq hb2 hbw
          go_wp2
          go_roundg (A.length - (k + 1))
          case measure => omega
          case rel => exact ⟨k + 1, by omega, rfl, by go_num, rfl, hown3, hb3⟩
        · have hkn : k = A.length := by omega
          subst hkn
          have hnum2 := hnum.below hb2
          have hcd := mulC_bd ga (gb i) A.length
          go_wp2_with (at_builtin; refine wpList_append_own _ rfl _ _ 45 rfl wo.heap.size 22 i0 (.int .u64 0) 1 8 Try.underlying45 hi0 hz0 hz1 hz2 rfl (by decide) _ _ _ rfl (hown.alloc _) ⟨w2.heap.size, 0, none⟩ 1 1 [.int .u64 (mulC A (dg B i) A.length)] rfl rfl ?c1 ?c2 ?c3 ?c4 ?c5 ?_)
          case c1 =>
            intro j u hj
            match j, hj with
            | 0, hj => simp at hj; subst hj; simp [Addr.add]
          case c2 => intro u hu; simp at hu; subst hu; rfl
          case c3 => unfold maxLen; omega
          case c4 => omega
          case c5 => have := hb2.size; simp; omega
          intro v' w3 hown2 hgrow _
          have hb3 := app_below hb2 hown hgrow
          have hrow : Num w3 v' (P i * (X * dg B i)) (i + A.length + 1) := by
            refine ⟨(List.range (i + A.length)).map (rowF A (dg B i) i) ++ [mulC A (dg B i) A.length], Digs.owned (n := i + A.length + 1) (base := wo.heap.size) ?_, good_snoc (good_range fun j _ => row_digit _ _ _ _) hcd, ?_, by simp⟩
            · rw [List.map_append, List.map_map]
              exact hown2
            · rw [row_val, VA.out]
          have hnum3 := hnum.below hb3
          clear hown2 hgrow hown hb2 hbw hnum2 hnum
          have HS := Lib.hid (sum_any hnum3 hrow (by omega) (by omega))
          clear hnum3 hrow
          go_wp2_with fail
          refine HS.out.mono ?_
          rintro e w4 ⟨v4, rfl, hn4, hb4⟩
          go_wp2
          go_roundg (B.length - (i + 1))
          case measure => omega
          case rel =>
            refine ⟨i + 1, by omega, rfl, by go_num, ?_, (hbel.trans (hb3.mono hbel.size)).trans (hb4.mono (by have := hbel.size; have := hb3.size; omega))⟩
            have e : X * pv (dg B) i + P i * (X * dg B i) = X * pv (dg B) (i + 1) := by
              simp only [pv]
              rw [Int.mul_add, Int.mul_left_comm (P i), Int.mul_comm (P i)]
            rw [e] at hn4
            exact hn4.mono (by omega)
    · have hin : i = B.length := by omega
      subst hin
      go_wp2
      go_ret
      have e : pv (dg B) B.length = Y := VB.out
      rw [e] at hnum
      exact ⟨_, rfl, hnum.mono (by omega), hbel⟩
end Go.Proofs.Ythmniplbckhgaaa
