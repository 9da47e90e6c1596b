/-
  A heap's further calls (element type uint64; made by gen_hb.py).
-/
import Derived.Test.YthhdidcmiiglbaaHbCallsU
namespace Go.Proofs.Ythhdidcmiiglbaa.U
open Go.RowKit Go.Maps

set_option maxHeartbeats 800000 in
theorem peek_none {w : World} (b : Option Nat) (hb : ∀ k, b = some k → ∃ X m, HpC w k X m []) :
    Calls Try.prog 48 #[.pointer (b.map (⟨·, 0, none⟩))] w fun e w' => e = .returned (.tuple #[.agg #[.int .u64 0, .int .i64 0], .int .u64 0, .bool false]) ∧ Turned [] w w' := by
  obtain ⟨W, hW⟩ : ∃ W, w.alloc (.cells #[.int .u64 0, .int .i64 0] tKy) = W := ⟨_, rfl⟩
  have TW : Turned [] w W := hW ▸ (Turned.refl [] w).alloc _
  have KW : W.heap[w.heap.size]? = some (.cells #[.int .u64 0, .int .i64 0] tKy (0, 0)) := hW ▸ heap_alloc_new w _
  have hlen : Calls Try.prog 23 #[.pointer (b.map (⟨·, 0, none⟩))] W fun e w' => e = .returned (.int .i64 0) ∧ W = w' := by
    cases b with
    | none => exact len_nil W
    | some k =>
      obtain ⟨X, m, h⟩ := hb k rfl
      exact len_any (h.keep TW (by simp))
  have HL := Lib.hid hlen
  have HN := Lib.hid (nothing_any W)
  have HT := Lib.hid TW
  have HK := Lib.hid KW
  clear hlen TW KW hb
  obtain ⟨p, hp⟩ : ∃ p, b.map (fun k => (⟨k, 0, none⟩ : Addr)) = p := ⟨_, rfl⟩
  rw [hp] at HL ⊢
  clear hp
  go_enter Try.func48, Try.ntmps48
  go_wp2_with fail
  with_reducible refine HL.out.mono ?_
  rintro e w1 ⟨rfl, rfl⟩
  go_wp2_with fail
  with_reducible refine HN.out.mono ?_
  rintro e V ⟨rfl, t1⟩
  have MM := Lib.hid (t1.same HK.out (by simp))
  obtain ⟨b0, b1, bf⟩ := two_cells MM.out
  have bf0 := bf 0
  have bf1 := bf 1
  have ht : Turned [] w ((V.setCell ⟨w.heap.size, 0, none⟩ (.int .u64 0)).setCell ⟨w.heap.size, 1, none⟩ (.int .i64 0)) := ((HT.out.j t1).setCell (.inr (by simp)) _).setCell (.inr (by simp)) _
  have HE := Lib.hid ht
  clear t1 bf ht
  go_wp2
  (try simp only [Exit.inBlock, Exit.then])
  refine bodyPost_ret (key_result rfl rfl rfl rfl (key_stored MM.out)) rfl ?_
  exact ⟨rfl, HE.out⟩

set_option maxHeartbeats 800000 in
theorem peek_some {w : World} {b : Nat} {X : List Nat} {m : Int} {D : List (Hm Int)} (h : HpC w b X m D) (hD : 0 < D.length) :
    Calls Try.prog 48 #[.pointer (some ⟨b, 0, none⟩)] w fun e w' => ∃ x, e = .returned (.tuple #[.agg #[.int .u64 x.1, .int .i64 x.2.1], .int .u64 x.2.2, .bool true]) ∧
      x ∈ D ∧ (∀ y ∈ D, ¬ KLt (y.1, y.2.1) (x.1, x.2.1)) ∧ Turned [] w w' := by
  obtain ⟨W, hW⟩ : ∃ W, w.alloc (.cells #[.int .u64 0, .int .i64 0] tKy) = W := ⟨_, rfl⟩
  have TW : Turned [] w W := hW ▸ (Turned.refl [] w).alloc _
  have SW : W.heap.size = w.heap.size + 1 := by rw [← hW]; simp
  have KW : W.heap[w.heap.size]? = some (.cells #[.int .u64 0, .int .i64 0] tKy (0, 0)) := hW ▸ heap_alloc_new w _
  have hb := h.lt b h.head
  have h1 := h.keep TW (by simp)
  have HL := Lib.hid (len_any h1)
  obtain ⟨L, f, i1, i2, i3, i4, i5⟩ := h1
  have hle := i2.perm.length_eq
  have hL0 : 0 < L.length := by omega
  obtain ⟨hmem, hlow⟩ := i2.top hL0
  obtain ⟨a, cap, c1, hr⟩ := HI.item i1
  obtain ⟨g, rfl, r0, r1, r2⟩ := hr 0 hL0
  obtain ⟨x, hx⟩ : ∃ x, L[0] = x := ⟨_, rfl⟩
  rw [hx] at r0 r1 r2 hlow hmem
  simp only [Nat.zero_mul, Nat.zero_add] at r0 r1 r2
  have HM := Lib.hid hmem
  have HLo := Lib.hid hlow
  have hne : ((D.length : Int) == 0) = false := by simp; exact fun e => by simp [e] at hD
  obtain ⟨x1, x2, x3⟩ := x
  simp only at r0 r1 r2 HLo
  obtain ⟨W2, hW2⟩ : ∃ W2, W.alloc (.cells #[.int .u64 x1, .int .i64 x2, .int .u64 x3] tHi) = W2 := ⟨_, rfl⟩
  have T2 : Turned [] W W2 := hW2 ▸ (Turned.refl [] W).alloc _
  have K2 : W2.heap[W.heap.size]? = some (.cells #[.int .u64 x1, .int .i64 x2, .int .u64 x3] tHi (0, 0)) := hW2 ▸ heap_alloc_new W _
  have MM := Lib.hid (T2.same KW (by simp))
  obtain ⟨b0, b1, bf⟩ := two_cells MM.out
  have bf0 := bf 0
  have bf1 := bf 1
  obtain ⟨q0, q1, q2, _⟩ := cells3' K2
  have i0 : (0 : Int) < L.length := by omega
  have ht : Turned [] w (((W2.drew).setCell ⟨w.heap.size, 0, none⟩ (.int .u64 x1)).setCell ⟨w.heap.size, 1, none⟩ (.int .i64 x2)) := (((TW.j T2).drew).setCell (.inr (by simp)) _).setCell (.inr (by simp)) _
  have HE := Lib.hid ht
  have nn : W.heap.size ≠ w.heap.size := by omega
  clear TW KW h i1 i2 i3 hmem hlow hx hle bf T2 K2 ht hr SW
  go_enter Try.func48, Try.ntmps48
  go_wp2_with fail
  with_reducible refine HL.out.mono ?_
  rintro e w1 ⟨rfl, rfl⟩
  go_wp2_with fail
  go_region
  all_goals
    go_wp2
    (try simp only [Exit.inBlock, Exit.then])
    refine bodyPost_ret (key_result rfl rfl rfl rfl (key_stored MM.out)) rfl ?_
    exact ⟨(x1, x2, x3), rfl, HM.out, HLo.out, HE.out⟩

set_option maxHeartbeats 800000 in
theorem isDue_none {w : World} (b : Option Nat) (hb : ∀ k, b = some k → ∃ X m, HpC w k X m []) (u : Int) :
    Calls Try.prog 34 #[.pointer (b.map (⟨·, 0, none⟩)), .int .u64 u] w fun e w' => e = .returned (.bool false) ∧ Turned [] w w' := by
  have HP := Lib.hid (peek_none b hb)
  obtain ⟨p, hp⟩ : ∃ p, b.map (fun k => (⟨k, 0, none⟩ : Addr)) = p := ⟨_, rfl⟩
  rw [hp] at HP ⊢
  clear hp hb
  go_enter Try.func34, Try.ntmps34
  go_wp2_with fail
  with_reducible refine HP.out.mono ?_
  rintro e V ⟨rfl, t1⟩
  have HE := Lib.hid (t1.alloc (.cells #[.int .u64 0, .int .i64 0] tKy))
  clear t1
  go_wp2
  go_ret
  exact ⟨rfl, HE.out⟩
set_option maxHeartbeats 800000 in
theorem isDue_some {w : World} {b : Nat} {X : List Nat} {m : Int} {D : List (Hm Int)} (h : HpC w b X m D) (hD : 0 < D.length) (u : Int) :
    Calls Try.prog 34 #[.pointer (some ⟨b, 0, none⟩), .int .u64 u] w fun e w' => ∃ x, e = .returned (.bool (decide (x.1 ≤ u))) ∧ x ∈ D ∧ (∀ y ∈ D, ¬ KLt (y.1, y.2.1) (x.1, x.2.1)) ∧ Turned [] w w' := by
  have HP := Lib.hid (peek_some h hD)
  clear h hD
  go_enter Try.func34, Try.ntmps34
  go_wp2_with fail
  with_reducible refine HP.out.mono ?_
  rintro e V ⟨⟨x1, x2, x3⟩, rfl, hx, hl, t1⟩
  have HE := Lib.hid (t1.alloc (.cells #[.int .u64 x1, .int .i64 x2] tKy))
  have HX := Lib.hid hx
  have HL := Lib.hid hl
  clear t1 hx hl
  go_wp2
  go_ret
  exact ⟨(x1, x2, x3), rfl, HX.out, HL.out, HE.out⟩


end Go.Proofs.Ythhdidcmiiglbaa.U
