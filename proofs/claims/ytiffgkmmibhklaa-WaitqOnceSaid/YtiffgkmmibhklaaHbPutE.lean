/-
  A heap's put, firstBelow, risen, sunk, settle (element type struct{}; made by gen_hbe.py).
-/
import Derived.Test.YtiffgkmmibhklaaHbLess
import Derived.Test.YtiffgkmmibhklaaHbAtE
import Derived.Test.YtiffgkmmibhklaaGH
namespace Go.Proofs.Ytiffgkmmibhklaa.E
open Go.RowKit Go.Maps

abbrev encH (x : Hm Unit) : List Value := [.int .u64 x.1, .int .i64 x.2.1]
theorem encH_len (x : Hm Unit) : (encH x).length = 2 := rfl
abbrev tHp : TypeId := 88
abbrev tHi : TypeId := 93
abbrev itH (x : Hm Unit) : Value := .agg #[.int .u64 x.1, .int .i64 x.2.1]
/-- Block b holds a heap. -/
abbrev HI (w : World) (b : Nat) (X : List Nat) (m : Int) (L : List (Hm Unit)) (f : Int → Option Int) (s : Nat) : Prop := HAt tHp tHi encH w b X m L f s

theorem cells3' {w : World} {b : Nat} {x y z : Value} {t : TypeId} (h : w.heap[b]? = some (.cells #[x, y, z] t (0, 0))) :
    w.cell? ⟨b, 0, none⟩ = some x ∧ w.cell? ⟨b, 1, none⟩ = some y ∧ w.cell? ⟨b, 2, none⟩ = some z ∧ ∀ i, w.frozen? ⟨b, i, none⟩ = false :=
  ⟨by simp [World.cell?, h], by simp [World.cell?, h], by simp [World.cell?, h], fun i => frozen_of_row w b i _ t h⟩

set_option maxHeartbeats 800000 in
theorem put_any {w : World} {b : Nat} {X : List Nat} {m : Int} {L : List (Hm Unit)} {f : Int → Option Int} {s : Nat} (h : HI w b X m L f s) (j : Nat) (hj : j < L.length) (x : Hm Unit) (hx : (litN x.2.1).wf = true) (hL : L.length ≤ 5000) (hs : s ≤ 5000) :
    Calls Try.prog 65 #[.pointer (some ⟨b, 0, none⟩), .int .i64 j, itH x] w fun e w' => e = .returned (.tuple #[]) ∧
      HI w' b X m (L.set j x) (updF f x.2.1 (some (j : Int))) (if (f x.2.1).isSome then s else s + 1) ∧ Turned X w w' := by
  obtain ⟨x1, x2, x3⟩ := x
  simp only [itH] at hx ⊢
  obtain ⟨gm, Y, D, ⟨v, hb, ho, rfl⟩, hm, hsz, hf, rfl⟩ := h
  obtain ⟨g, cap, rfl, hc1, hc2⟩ := ownsRow_pos ho (by omega)
  have hbl := lt_of_block hb
  have hgl := ownsRow_lt ho g (by simp [Value.ownBlock])
  have hml := hm.lt
  obtain ⟨W, hW⟩ : ∃ W, w.alloc (.cells #[.int .u64 x1, .int .i64 x2] tHi) = W := ⟨_, rfl⟩
  have TW : Turned [] w W := hW ▸ (Turned.refl [] w).alloc _
  have hb0 : W.heap[b]? = some (.cells #[.int .i64 m, .slice (some ⟨g, 0, none⟩) L.length cap, .map (some gm)] tHp (0, 0)) := TW.same hb (by simp)
  have ho0 := ownsRow_same (w' := W) ho fun k _ hl => TW.block k hl (by simp)
  have hm0 := ownsMap_same (w' := W) hm (TW.block gm hml (by simp))
  have hB0 : W.heap[w.heap.size]? = some (.cells #[.int .u64 x1, .int .i64 x2] tHi (0, 0)) := hW ▸ heap_alloc_new w _
  obtain ⟨c0, c1, c2, cf⟩ := cells3' hb0
  obtain ⟨k0, k1, kf⟩ := two_cells hB0
  have rc := row_cells encH_len ho0 hj
  have f0 : W.frozen? ⟨g, j * 2, none⟩ = false := (rc 0 (by omega)).2
  have f1 := (rc 1 (by omega)).2
  obtain ⟨y1, hy1⟩ : ∃ y : Value, W.cell? ⟨g, j * 2, none⟩ = some y := ⟨_, (rc 0 (by omega)).1⟩
  obtain ⟨y2, hy2⟩ : ∃ y : Value, W.cell? ⟨g, j * 2 + 1, none⟩ = some y := ⟨_, (rc 1 (by omega)).1⟩
  obtain ⟨a1, a2, a3, a4⟩ := HAt.setItem encH_len (by decide) hb0 ho0 hm0 hj (x := (x1, x2, x3)) rfl
  have A1 := Lib.hid a1
  have A2 := Lib.hid a2
  have A3 := Lib.hid a3
  have A4 := Lib.hid ((TW.mono (fun k hk => by simp at hk) : Turned [g] w W).trans a4 (Newer.refl _ _))
  have HS := Lib.hid hsz
  have HF := Lib.hid hf
  have HWf := Lib.hid hx
  have i0 : (0 : Int) ≤ j := by omega
  have i1 : (j : Int) < L.length := by omega
  have hBg : w.heap.size ≠ g := by omega
  have hbg : b ≠ g := fun h => block_off hb ho (by decide) (by simp [Value.ownBlock, h])
  clear a1 a2 a3 a4 hsz hf hx ho ho0 hm hm0 hb hb0 hB0 TW rc cf kf
  go_enter Try.func65, Try.ntmps65
  go_wp2_with fail
  go_region
  go_wp2_with fail
  obtain ⟨W1, hW1⟩ : ∃ W1, ((W.setCell ⟨g, j * 2, none⟩ (.int .u64 x1)).setCell ⟨g, j * 2 + 1, none⟩ (.int .i64 x2)).drew = W1 := ⟨_, rfl⟩
  rw [hW1]
  have b1 : W1.heap[b]? = some (.cells #[.int .i64 m, .slice (some ⟨g, 0, none⟩) L.length cap, .map (some gm)] tHp (0, 0)) := by rw [← hW1]; exact A1.out
  have o1 : W1.ownsRow 0 tHi 2 (.slice (some ⟨g, 0, none⟩) L.length cap) L.length (cellsOf encH (L.set j (x1, x2, x3))) := by rw [← hW1]; exact A2.out
  have m1 : W1.ownsMap Try.prog tN (plainElem (H := Unit) Try.prog tN) gm (Maps.size D) D := by rw [← hW1]; exact A3.out
  have t1 : Turned [g] w W1 := by rw [← hW1]; exact A4.out.drew
  have p0 : W1.cell? ⟨w.heap.size, 1, none⟩ = some (.int .i64 x2) := by
    rw [← hW1]
    show ((W.setCell _ _).setCell _ _).cell? _ = _
    rw [World.cell?_setCell_other _ _ _ _ (by simp), World.cell?_setCell_other _ _ _ _ (by simp)]
    exact k1
  obtain ⟨_, _, d2, _⟩ := cells3' b1
  have B1 := Lib.hid b1
  have O1 := Lib.hid o1
  have M1 := Lib.hid m1
  have T1 := Lib.hid t1
  have hlt : Maps.size D < maxLen := by have := HS.out; unfold maxLen; omega
  have hjw : (litN (j : Int)).wf = true := WalkArith.wf_i64 (by omega)
  clear b1 o1 m1 t1 A1 A2 A3 A4 c0 c1 c2 k0 k1 f0 f1 hy1 hy2 hW hW1
  obtain ⟨w2, hrun, hown2, hturn2⟩ := M1.out.drew.store lawN Try.underlying85 hlt (keyOf_int_mk Try.underlying3 HWf.out) (plainElem_int Try.underlying3 hjw)
  obtain ⟨q1, q2⟩ := HAt.putPlace (w := W1.drew) (tS := tHp) (tE := tHi) (enc := encH) (L := L.set j (x1, x2, x3)) (f := f) (s := s) (i := x2) (v := j) (by rw [List.length_set]; exact B1.out) (by rw [List.length_set]; exact O1.out) M1.out.drew HS.out HF.out hown2 hturn2
  have Q1 := Lib.hid q1
  have Q2 := Lib.hid ((T1.out.drew.mono (fun k hk => by simp at hk; exact .inl (by simp [hk, Value.ownBlock])) : Turned (gm :: b :: (Value.slice (some ⟨g, 0, none⟩) L.length cap).ownBlock.toList) w W1.drew).trans q2 (fun k hk => .inl (by simp at hk; simp [hk])))
  clear q1 q2 hown2 hturn2
  go_region
  all_goals
    clear hrun
    go_end0
    exact ⟨rfl, Q1.out, Q2.out⟩

/-! ### what the walks read -/
theorem HI.view {w : World} {b : Nat} {X : List Nat} {m : Int} {L : List (Hm Unit)} {f : Int → Option Int} {s : Nat} (h : HI w b X m L f s) :
    ∃ a cap gm D, w.heap[b]? = some (.cells #[.int .i64 m, .slice a L.length cap, .map (some gm)] tHp (0, 0)) ∧ w.ownsRow 0 tHi 2 (.slice a L.length cap) L.length (cellsOf encH L) ∧ L.length ≤ cap ∧ cap ≤ maxLen ∧
      w.ownsMap Try.prog tN (plainElem (H := Unit) Try.prog tN) gm (Maps.size D) D ∧ Maps.size D ≤ s ∧ ReadsF D f ∧ X = gm :: b :: (Value.slice a L.length cap).ownBlock.toList := by
  obtain ⟨gm, Y, D, ⟨v, hb, ho, rfl⟩, hm, hsz, hf, rfl⟩ := h
  obtain ⟨a, cap, rfl, hc1, hc2⟩ := ownsRow_shape ho
  exact ⟨a, cap, gm, D, hb, ho, hc1, hc2, hm, hsz, hf, rfl⟩
/-- The fields. -/
theorem HI.fields {w : World} {b : Nat} {X : List Nat} {m : Int} {L : List (Hm Unit)} {f : Int → Option Int} {s : Nat} (h : HI w b X m L f s) :
    ∃ a cap gm, w.cell? ⟨b, 0, none⟩ = some (.int .i64 m) ∧ w.cell? ⟨b, 1, none⟩ = some (.slice a L.length cap) ∧ w.cell? ⟨b, 2, none⟩ = some (.map (some gm)) ∧ L.length ≤ cap ∧ cap ≤ maxLen := by
  obtain ⟨a, cap, gm, D, hb, ho, hc1, hc2, hm, hsz, hf, rfl⟩ := h.view
  obtain ⟨c0, c1, c2, _⟩ := cells3' hb
  exact ⟨a, cap, gm, c0, c1, c2, hc1, hc2⟩
/-- An item's cells. -/
theorem HI.item {w : World} {b : Nat} {X : List Nat} {m : Int} {L : List (Hm Unit)} {f : Int → Option Int} {s : Nat} (h : HI w b X m L f s) :
    ∃ a cap, w.cell? ⟨b, 1, none⟩ = some (.slice a L.length cap) ∧ ∀ j (hj : j < L.length), ∃ g, a = some ⟨g, 0, none⟩ ∧ w.cell? ⟨g, j * 2, none⟩ = some (.int .u64 (L[j]).1) ∧ w.cell? ⟨g, j * 2 + 1, none⟩ = some (.int .i64 (L[j]).2.1) := by
  obtain ⟨a, cap, gm, D, hb, ho, hc1, hc2, hm, hsz, hf, rfl⟩ := h.view
  obtain ⟨c0, c1, c2, _⟩ := cells3' hb
  refine ⟨a, cap, c1, fun j hj => ?_⟩
  obtain ⟨g, cap', hv, _, _⟩ := ownsRow_pos ho (by omega)
  simp only [Value.slice.injEq] at hv
  obtain ⟨rfl, _, rfl⟩ := hv
  have rc := row_cells encH_len ho hj
  exact ⟨g, rfl, (rc 0 (by omega)).1, (rc 1 (by omega)).1⟩

set_option maxRecDepth 100000 in
set_option maxHeartbeats 800000 in
theorem low_any {w : World} {b : Nat} {X : List Nat} {m : Int} {L : List (Hm Unit)} {f : Int → Option Int} {s : Nat} (h : HI w b X m L f s) (j : Nat) (hj : j < L.length) (hL : L.length ≤ 5000) :
    Calls Try.prog 79 #[.pointer (some ⟨b, 0, none⟩), .int .i64 j] w fun e w' => e = .returned (.int .i64 (lowN L j : Nat)) ∧ Turned [] w w' := by
  obtain ⟨a, cap, c1, hr⟩ := h.item
  obtain ⟨q1, hq1⟩ : ∃ q, 2 * j + 1 = q := ⟨_, rfl⟩
  obtain ⟨q2, hq2⟩ : ∃ q, 2 * j + 2 = q := ⟨_, rfl⟩
  have V1 := Lib.hid (show (2 * (j : Int) + 1) = (q1 : Int) by omega)
  have V2 := Lib.hid (show (2 * (j : Int) + 2) = (q2 : Int) by omega)
  by_cases h1 : L.length ≤ q1
  · have hl : lowN L j = j := by rw [lowN, if_pos (by omega)]
    rw [hl]
    have z1 : decide ((L.length : Int) ≤ 2 * (j : Int) + 1) = true := by simp; omega
    have HT := Lib.hid (Turned.refl [] w)
    clear h hr hl
    go_enter Try.func79, Try.ntmps79
    go_wp2
    go_ret
    exact ⟨rfl, HT.out⟩
  · have z1 : decide ((L.length : Int) ≤ 2 * (j : Int) + 1) = false := by simp; omega
    obtain ⟨g, rfl, r0, r1⟩ := hr q1 (by omega)
    by_cases h2 : L.length ≤ q2
    · have hl : lowN L j = q1 := by rw [lowN, if_neg (by omega), if_pos (.inl (by omega))]; exact hq1
      rw [hl]
      have z2 : decide ((L.length : Int) ≤ 2 * (j : Int) + 2) = true := by simp; omega
      have HT := Lib.hid (Turned.refl [] w)
      clear h hr hl
      go_enter Try.func79, Try.ntmps79
      go_wp2_with fail
      go_quiet (fail)
      go_wp2
      go_ret
      rw [V1.out]
      exact ⟨rfl, HT.out.drewN _⟩
    · have z2 : decide ((L.length : Int) ≤ 2 * (j : Int) + 2) = false := by simp; omega
      have i1 : 2 * (j : Int) + 1 < L.length := by omega
      have i2 : 2 * (j : Int) + 2 < L.length := by omega
      have i3 : (0 : Int) ≤ 2 * (j : Int) + 1 := by omega
      have i4 : (0 : Int) ≤ 2 * (j : Int) + 2 := by omega
      obtain ⟨g', hg', s0, s1⟩ := hr q2 (by omega)
      simp only [Option.some.injEq, Addr.mk.injEq, and_true] at hg'
      subst hg'
      have hl : lowN L j = if KLt (keyN L q1) (keyN L q2) then q1 else q2 := by
        rw [lowN, if_neg (by omega), hq1, hq2]
        by_cases hk : KLt (keyN L q1) (keyN L q2)
        · rw [if_pos (.inr hk), if_pos hk]
        · rw [if_neg (by intro hh; rcases hh with hh | hh; omega; exact hk hh), if_neg hk]
      rw [keyN_at (by omega), keyN_at (by omega)] at hl
      obtain ⟨⟨x1, x2, x3⟩, hx⟩ : ∃ x, L[q1]'(by omega) = x := ⟨_, rfl⟩
      obtain ⟨⟨y1, y2, y3⟩, hy⟩ : ∃ y, L[q2]'(by omega) = y := ⟨_, rfl⟩
      rw [hx] at r0 r1 hl
      rw [hy] at s0 s1 hl
      simp only at r0 r1 s0 s1 hl
      obtain ⟨W, hW⟩ : ∃ W, w.drew = W := ⟨_, rfl⟩
      have HC := Lib.hid (less_any x1 x2 y1 y2 W)
      have HT : Hid (Turned [] w W) := Lib.hid (hW ▸ (Turned.refl [] w).drew)
      have d1 : W.cell? ⟨b, 1, none⟩ = some (.slice (some ⟨g, 0, none⟩) L.length cap) := by rw [← hW]; exact c1
      have d2 : W.cell? ⟨g, q1 * 2, none⟩ = some (.int .u64 x1) := by rw [← hW]; exact r0
      have d3 : W.cell? ⟨g, q1 * 2 + 1, none⟩ = some (.int .i64 x2) := by rw [← hW]; exact r1
      have d4 : W.cell? ⟨g, q2 * 2, none⟩ = some (.int .u64 y1) := by rw [← hW]; exact s0
      have d5 : W.cell? ⟨g, q2 * 2 + 1, none⟩ = some (.int .i64 y2) := by rw [← hW]; exact s1
      obtain ⟨kb, hkb⟩ : ∃ kb : Bool, decide (KLt (x1, x2) (y1, y2)) = kb := ⟨_, rfl⟩
      have hl' : lowN L j = if kb = true then q1 else q2 := by
        rw [hl, ← hkb]
        simp
      rw [hl']
      rw [hkb] at HC
      have u1 : (2 * (j : Int) + 1).toNat = q1 := by omega
      have u2 : (2 * (j : Int) + 2).toNat = q2 := by omega
      clear h hr hl hl' hx hy hkb h1 h2 hq1 hq2
      go_enter Try.func79, Try.ntmps79
      go_wp2_with fail
      refine tail_at 24 hW (by kernel_rfl) (by kernel_rfl) ?_
      clear hW
      simp only [List.take_succ_cons, List.take_zero, List.drop_succ_cons, List.drop_zero]
      repeat still_step
      refine wpStill_nil ?_
      go_wp2_with fail
      with_reducible refine HC.out.mono ?_
      rintro e V ⟨rfl, t2⟩
      have T3 := Lib.hid (HT.out.j t2)
      clear t2
      cases kb with
      | true =>
        go_wp2
        go_ret
        rw [V1.out]
        exact ⟨rfl, T3.out⟩
      | false =>
        go_wp2
        go_ret
        rw [V2.out]
        exact ⟨rfl, T3.out⟩
end Go.Proofs.Ytiffgkmmibhklaa.E
