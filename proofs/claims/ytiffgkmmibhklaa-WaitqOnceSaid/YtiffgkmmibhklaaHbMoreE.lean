/-
  A heap's further calls (element type struct{}; made by gen_hbe.py).
-/
import Derived.Test.YtiffgkmmibhklaaHbCallsE
namespace Go.Proofs.Ytiffgkmmibhklaa.E
open Go.RowKit Go.Maps

set_option maxHeartbeats 800000 in
theorem peek_none {w : World} (b : Option Nat) (hb : ∀ k, b = some k → ∃ X m, HpC w k X m []) :
    Calls Try.prog 72 #[.pointer (b.map (⟨·, 0, none⟩))] w fun e w' => e = .returned (.tuple #[.agg #[.int .u64 0, .int .i64 0], .agg #[], .bool false]) ∧ Turned [] w w' := by
  obtain ⟨W, hW⟩ : ∃ W, (w.alloc (.cells #[.int .u64 0, .int .i64 0] tKy)).alloc (.cells #[] tEm) = W := ⟨_, rfl⟩
  have TW : Turned [] w W := hW ▸ ((Turned.refl [] w).alloc _).alloc _
  have KW : W.heap[w.heap.size]? = some (.cells #[.int .u64 0, .int .i64 0] tKy (0, 0)) := hW ▸ (Below.heap_alloc _ _ _ (by simp)).trans (heap_alloc_new w _)
  have hlen : Calls Try.prog 73 #[.pointer (b.map (⟨·, 0, none⟩))] W fun e w' => e = .returned (.int .i64 0) ∧ W = w' := by
    cases b with
    | none => exact len_nil W
    | some k =>
      obtain ⟨X, m, h⟩ := hb k rfl
      exact len_any (h.keep TW (by simp))
  have HL := Lib.hid hlen
  have HN := Lib.hid (nothing_any W)
  have HT := Lib.hid TW
  have HK := Lib.hid KW
  clear hlen TW KW hb
  obtain ⟨p, hp⟩ : ∃ p, b.map (fun k => (⟨k, 0, none⟩ : Addr)) = p := ⟨_, rfl⟩
  rw [hp] at HL ⊢
  clear hp
  go_enter Try.func72, Try.ntmps72
  go_wp2_with fail
  with_reducible refine HL.out.mono ?_
  rintro e w1 ⟨rfl, rfl⟩
  go_wp2_with fail
  with_reducible refine HN.out.mono ?_
  rintro e V ⟨rfl, t1⟩
  have MM := Lib.hid (t1.same HK.out (by simp))
  obtain ⟨b0, b1, bf⟩ := two_cells MM.out
  have bf0 := bf 0
  have bf1 := bf 1
  have ht : Turned [] w ((V.setCell ⟨w.heap.size, 0, none⟩ (.int .u64 0)).setCell ⟨w.heap.size, 1, none⟩ (.int .i64 0)) := ((HT.out.j t1).setCell (.inr (by simp)) _).setCell (.inr (by simp)) _
  have HE := Lib.hid ht
  clear t1 bf ht
  go_wp2
  (try simp only [Exit.inBlock, Exit.then])
  refine bodyPost_ret (key_result rfl rfl rfl rfl (key_stored MM.out)) rfl ?_
  exact ⟨rfl, HE.out⟩

set_option maxHeartbeats 800000 in
theorem peek_some {w : World} {b : Nat} {X : List Nat} {m : Int} {D : List (Hm Unit)} (h : HpC w b X m D) (hD : 0 < D.length) :
    Calls Try.prog 72 #[.pointer (some ⟨b, 0, none⟩)] w fun e w' => ∃ x, e = .returned (.tuple #[.agg #[.int .u64 x.1, .int .i64 x.2.1], .agg #[], .bool true]) ∧
      x ∈ D ∧ (∀ y ∈ D, ¬ KLt (y.1, y.2.1) (x.1, x.2.1)) ∧ Turned [] w w' := by
  obtain ⟨W, hW⟩ : ∃ W, (w.alloc (.cells #[.int .u64 0, .int .i64 0] tKy)).alloc (.cells #[] tEm) = W := ⟨_, rfl⟩
  have TW : Turned [] w W := hW ▸ ((Turned.refl [] w).alloc _).alloc _
  have SW : W.heap.size = w.heap.size + 2 := by rw [← hW]; simp
  have KW : W.heap[w.heap.size]? = some (.cells #[.int .u64 0, .int .i64 0] tKy (0, 0)) := hW ▸ (Below.heap_alloc _ _ _ (by simp)).trans (heap_alloc_new w _)
  have hb := h.lt b h.head
  have h1 := h.keep TW (by simp)
  have HL := Lib.hid (len_any h1)
  obtain ⟨L, f, i1, i2, i3, i4, i5⟩ := h1
  have hle := i2.perm.length_eq
  have hL0 : 0 < L.length := by omega
  obtain ⟨hmem, hlow⟩ := i2.top hL0
  obtain ⟨a, cap, c1, hr⟩ := HI.item i1
  obtain ⟨g, rfl, r0, r1⟩ := hr 0 hL0
  obtain ⟨x, hx⟩ : ∃ x, L[0] = x := ⟨_, rfl⟩
  rw [hx] at r0 r1 hlow hmem
  simp only [Nat.zero_mul, Nat.zero_add] at r0 r1
  have HM := Lib.hid hmem
  have HLo := Lib.hid hlow
  have hne : ((D.length : Int) == 0) = false := by simp; exact fun e => by simp [e] at hD
  obtain ⟨x1, x2, x3⟩ := x
  simp only at r0 r1 HLo
  obtain ⟨W2, hW2⟩ : ∃ W2, W.alloc (.cells #[.int .u64 x1, .int .i64 x2] tHi) = W2 := ⟨_, rfl⟩
  have T2 : Turned [] W W2 := hW2 ▸ (Turned.refl [] W).alloc _
  have K2 : W2.heap[W.heap.size]? = some (.cells #[.int .u64 x1, .int .i64 x2] tHi (0, 0)) := hW2 ▸ heap_alloc_new W _
  have MM := Lib.hid (T2.same KW (by simp))
  obtain ⟨b0, b1, bf⟩ := two_cells MM.out
  have bf0 := bf 0
  have bf1 := bf 1
  obtain ⟨q0, q1, _⟩ := two_cells K2
  have pr1 := part_run (w := W2.drew) K2
  have pr2 := part_run (w := ((W2.setCell ⟨w.heap.size, 0, none⟩ (.int .u64 x1)).setCell ⟨w.heap.size, 1, none⟩ (.int .i64 x2)).drew) ((Below.heap_setCell _ _ _ _ (by show W.heap.size ≠ w.heap.size; omega)).trans ((Below.heap_setCell _ _ _ _ (by show W.heap.size ≠ w.heap.size; omega)).trans K2))
  have i0 : (0 : Int) < L.length := by omega
  have ht : Turned [] w (((W2.drew).setCell ⟨w.heap.size, 0, none⟩ (.int .u64 x1)).setCell ⟨w.heap.size, 1, none⟩ (.int .i64 x2)) := (((TW.j T2).drew).setCell (.inr (by simp)) _).setCell (.inr (by simp)) _
  have HE := Lib.hid ht
  have nn : W.heap.size ≠ w.heap.size := by omega
  clear TW KW h i1 i2 i3 hmem hlow hx hle bf T2 K2 ht hr SW
  go_enter Try.func72, Try.ntmps72
  go_wp2_with fail
  with_reducible refine HL.out.mono ?_
  rintro e w1 ⟨rfl, rfl⟩
  go_wp2_with fail
  go_region
  all_goals
    go_wp2
    (try simp only [Exit.inBlock, Exit.then])
    refine bodyPost_ret (key_result rfl rfl rfl rfl (key_stored MM.out)) rfl ?_
    exact ⟨(x1, x2, x3), rfl, HM.out, HLo.out, HE.out⟩

set_option maxHeartbeats 800000 in
theorem isDue_none {w : World} (b : Option Nat) (hb : ∀ k, b = some k → ∃ X m, HpC w k X m []) (u : Int) :
    Calls Try.prog 56 #[.pointer (b.map (⟨·, 0, none⟩)), .int .u64 u] w fun e w' => e = .returned (.bool false) ∧ Turned [] w w' := by
  have HP := Lib.hid (peek_none b hb)
  obtain ⟨p, hp⟩ : ∃ p, b.map (fun k => (⟨k, 0, none⟩ : Addr)) = p := ⟨_, rfl⟩
  rw [hp] at HP ⊢
  clear hp hb
  go_enter Try.func56, Try.ntmps56
  go_wp2_with fail
  with_reducible refine HP.out.mono ?_
  rintro e V ⟨rfl, t1⟩
  have HE := Lib.hid ((t1.alloc (.cells #[.int .u64 0, .int .i64 0] tKy)).alloc (.cells #[] tEm))
  clear t1
  go_wp2
  go_ret
  exact ⟨rfl, HE.out⟩
set_option maxHeartbeats 800000 in
theorem isDue_some {w : World} {b : Nat} {X : List Nat} {m : Int} {D : List (Hm Unit)} (h : HpC w b X m D) (hD : 0 < D.length) (u : Int) :
    Calls Try.prog 56 #[.pointer (some ⟨b, 0, none⟩), .int .u64 u] w fun e w' => ∃ x, e = .returned (.bool (decide (x.1 ≤ u))) ∧ x ∈ D ∧ (∀ y ∈ D, ¬ KLt (y.1, y.2.1) (x.1, x.2.1)) ∧ Turned [] w w' := by
  have HP := Lib.hid (peek_some h hD)
  clear h hD
  go_enter Try.func56, Try.ntmps56
  go_wp2_with fail
  with_reducible refine HP.out.mono ?_
  rintro e V ⟨⟨x1, x2, x3⟩, rfl, hx, hl, t1⟩
  have HE := Lib.hid ((t1.alloc (.cells #[.int .u64 x1, .int .i64 x2] tKy)).alloc (.cells #[] tEm))
  have HX := Lib.hid hx
  have HL := Lib.hid hl
  clear t1 hx hl
  go_wp2
  go_ret
  exact ⟨(x1, x2, x3), rfl, HX.out, HL.out, HE.out⟩

set_option maxHeartbeats 800000 in
theorem remove_nil (w : World) (id : Int) :
    Calls Try.prog 31 #[.pointer none, .int .i64 id] w fun e w' => e = .returned (.tuple #[.agg #[.int .u64 0, .int .i64 0], .agg #[], .bool false]) ∧ Turned [] w w' := by
  obtain ⟨W, hW⟩ : ∃ W, (w.alloc (.cells #[.int .u64 0, .int .i64 0] tKy)).alloc (.cells #[] tEm) = W := ⟨_, rfl⟩
  have TW : Turned [] w W := hW ▸ ((Turned.refl [] w).alloc _).alloc _
  have KW : W.heap[w.heap.size]? = some (.cells #[.int .u64 0, .int .i64 0] tKy (0, 0)) := hW ▸ (Below.heap_alloc _ _ _ (by simp)).trans (heap_alloc_new w _)
  have HN := Lib.hid (nothing_any W)
  have HT := Lib.hid TW
  have HK := Lib.hid KW
  clear TW KW
  go_enter Try.func31, Try.ntmps31
  go_wp2_with fail
  with_reducible refine HN.out.mono ?_
  rintro e V ⟨rfl, t1⟩
  have MM := Lib.hid (t1.same HK.out (by simp))
  obtain ⟨b0, b1, bf⟩ := two_cells MM.out
  have bf0 := bf 0
  have bf1 := bf 1
  have ht : Turned [] w ((V.setCell ⟨w.heap.size, 0, none⟩ (.int .u64 0)).setCell ⟨w.heap.size, 1, none⟩ (.int .i64 0)) := ((HT.out.j t1).setCell (.inr (by simp)) _).setCell (.inr (by simp)) _
  have HE := Lib.hid ht
  clear t1 bf ht
  go_wp2
  (try simp only [Exit.inBlock, Exit.then])
  refine bodyPost_ret (key_result rfl rfl rfl rfl (key_stored MM.out)) rfl ?_
  exact ⟨rfl, HE.out⟩
set_option maxHeartbeats 800000 in
theorem remove_none {w : World} {b : Nat} {X : List Nat} {m : Int} {D : List (Hm Unit)} (h : HpC w b X m D) (id : Int) (hw : (litN id).wf = true) (hno : ∀ y ∈ D, y.2.1 ≠ id) :
    Calls Try.prog 31 #[.pointer (some ⟨b, 0, none⟩), .int .i64 id] w fun e w' => e = .returned (.tuple #[.agg #[.int .u64 0, .int .i64 0], .agg #[], .bool false]) ∧ Turned [] w w' := by
  obtain ⟨W, hW⟩ : ∃ W, (w.alloc (.cells #[.int .u64 0, .int .i64 0] tKy)).alloc (.cells #[] tEm) = W := ⟨_, rfl⟩
  have TW : Turned [] w W := hW ▸ ((Turned.refl [] w).alloc _).alloc _
  have KW : W.heap[w.heap.size]? = some (.cells #[.int .u64 0, .int .i64 0] tKy (0, 0)) := hW ▸ (Below.heap_alloc _ _ _ (by simp)).trans (heap_alloc_new w _)
  have HN := Lib.hid (nothing_any W)
  have HT := Lib.hid TW
  have HK := Lib.hid KW
  have hb := h.lt b h.head
  obtain ⟨L, f, h1, h2, _⟩ := h.keep TW (by simp)
  have hfj := h2.none_of hno
  obtain ⟨a, cap, gm, DD, hb0, ho0, hc1, hc2, hm0, hs0, hf0, hX⟩ := h1.view
  obtain ⟨c0, c1, c2, _⟩ := cells3' hb0
  have hlook := look_eq hm0 hf0 hw
  simp only [hfj] at hlook
  clear TW KW h h1 h2 hm0 hf0 ho0 hb0 hX hno
  go_enter Try.func31, Try.ntmps31
  go_wp2_with fail
  with_reducible refine HN.out.mono ?_
  rintro e V ⟨rfl, t1⟩
  have MM := Lib.hid (t1.same HK.out (by simp))
  obtain ⟨b0, b1, bf⟩ := two_cells MM.out
  have bf0 := bf 0
  have bf1 := bf 1
  have ht : Turned [] w ((V.setCell ⟨w.heap.size, 0, none⟩ (.int .u64 0)).setCell ⟨w.heap.size, 1, none⟩ (.int .i64 0)) := ((HT.out.j t1).setCell (.inr (by simp)) _).setCell (.inr (by simp)) _
  have HE := Lib.hid ht
  clear t1 bf ht hlook
  go_wp2
  (try simp only [Exit.inBlock, Exit.then])
  refine bodyPost_ret (key_result rfl rfl rfl rfl (key_stored MM.out)) rfl ?_
  exact ⟨rfl, HE.out⟩
set_option maxHeartbeats 800000 in
theorem remove_some {w : World} {b : Nat} {X : List Nat} {m : Int} {D : List (Hm Unit)} (h : HpC w b X m D) {x : Hm Unit} (hx : x ∈ D) :
    Calls Try.prog 31 #[.pointer (some ⟨b, 0, none⟩), .int .i64 x.2.1] w fun e w' => ∃ D', e = .returned (.tuple #[.agg #[.int .u64 x.1, .int .i64 x.2.1], .agg #[], .bool true]) ∧
      D.Perm (x :: D') ∧ HpC w' b X m D' ∧ Turned X w w' := by
  obtain ⟨W, hW⟩ : ∃ W, (w.alloc (.cells #[.int .u64 0, .int .i64 0] tKy)).alloc (.cells #[] tEm) = W := ⟨_, rfl⟩
  have TW : Turned [] w W := hW ▸ ((Turned.refl [] w).alloc _).alloc _
  have KW : W.heap[w.heap.size]? = some (.cells #[.int .u64 0, .int .i64 0] tKy (0, 0)) := hW ▸ (Below.heap_alloc _ _ _ (by simp)).trans (heap_alloc_new w _)
  have hXl := h.lt
  have hRX : w.heap.size ∉ X := fun hx => by have := hXl _ hx; omega
  have hb := h.lt b h.head
  obtain ⟨L, f, i1, i2, i3, i4, i5⟩ := h.keep TW (by simp)
  have hle := i2.perm.length_eq
  obtain ⟨j, hj, hfj, hLj⟩ := i2.some_of hx
  have hwx := i3 x hx
  have hwL : WfM L := fun x hx => i3 x (i2.perm.mem_iff.1 hx)
  have htk := take_any i1 i2 hwL (by omega) (Nat.le_refl _) j hj
  rw [hLj] at htk
  have HTk := Lib.hid htk
  have hpm := i2.perm.symm.trans (get_perm L j hj)
  rw [hLj] at hpm
  have HP := Lib.hid hpm
  have HW : Hid (WfM (L.eraseIdx j) ∧ ((L.eraseIdx j).length : Int) ≤ m ∧ (L.eraseIdx j).length ≤ 4500 ∧ (L.eraseIdx j).length = L.length - 1) := Lib.hid ⟨fun y hy => hwL y (List.mem_of_mem_eraseIdx hy), by rw [List.length_eraseIdx, if_pos hj]; omega, by rw [List.length_eraseIdx, if_pos hj]; omega, by rw [List.length_eraseIdx, if_pos hj]⟩
  obtain ⟨a, cap, gm, DD, hb0, ho0, hc1, hc2, hm0, hs0, hf0, hX⟩ := i1.view
  obtain ⟨c0, c1, c2, _⟩ := cells3' hb0
  have hlook := look_eq hm0 hf0 hwx
  simp only [hfj] at hlook
  have HT := Lib.hid TW
  have HK := Lib.hid KW
  obtain ⟨x1, x2, x3⟩ := x
  simp only at HTk HP hlook ⊢
  clear TW KW h i1 i2 i3 hXl hpm hx hwL hle hm0 hf0 ho0 hb0 hX hwx hfj hLj htk
  go_enter Try.func31, Try.ntmps31
  go_wp2_with fail
  with_reducible refine HTk.out.mono ?_
  rintro e V ⟨rfl, L', f', g1, g2, g3⟩
  have MM := Lib.hid (g3.same HK.out hRX)
  obtain ⟨b0, b1, bf⟩ := two_cells MM.out
  have bf0 := bf 0
  have bf1 := bf 1
  have HG := Lib.hid (And.intro g1 (And.intro g2 g3))
  clear g1 g2 g3 bf hlook
  go_wp2
  (try simp only [Exit.inBlock, Exit.then])
  refine bodyPost_ret (key_result rfl rfl rfl rfl (key_stored MM.out)) rfl ?_
  obtain ⟨g1, g2, g3⟩ := HG.out
  obtain ⟨w1, w2, w3, w4⟩ := HW.out
  have ht : Turned [w.heap.size] V ((V.setCell ⟨w.heap.size, 0, none⟩ (.int .u64 x1)).setCell ⟨w.heap.size, 1, none⟩ (.int .i64 x2)) := ((Turned.refl _ V).setCell (.inl (by simp)) _).setCell (.inl (by simp)) _
  have e4 : L'.length = L.length - 1 := by rw [g2.perm.length_eq, w4]
  refine ⟨L.eraseIdx j, rfl, HP.out, ⟨L', f', ?_, g2, w1, w2, w3⟩, ?_⟩
  · rw [e4]
    exact HAt.keep g1 ht (fun k hk hw => by simp at hw; subst hw; exact hRX hk)
  · exact ((HT.out.up : Turned X w W).trans g3 (Newer.refl _ _)).trans ht (fun k hk => .inr (by simp at hk; omega))

end Go.Proofs.Ytiffgkmmibhklaa.E
