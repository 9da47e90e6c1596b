/-
  HeapSorts: the walk.
-/
import Derived.Test.YthhdidcmiiglbaaHbDue
import Derived.Test.YthhdidcmiiglbaaHbDueU
import Derived.Test.YthhdidcmiiglbaaHbAwake
import Derived.Test.YthhdidcmiiglbaaHbSort
import Derived.Test.YthhdidcmiiglbaaArRound
import Derived.Sort.BigQuietIn
import Derived.BigQuiet
namespace Go.Proofs.Ythhdidcmiiglbaa
open Go.RowKit Go.Maps Go.Shelf
attribute [local go_sem] Oper.semAt_some

/-- The boxes of the law's own variables. -/
structure SoB (w W : World) (sl : Value) : Prop where
  turned : Turned [] w W
  l : W.heap[w.heap.size]? = some (.cells #[sl] 51 (0, 0))
  r : W.heap[w.heap.size + 1]? = some (.cells #[.bool false] 4 (0, 0))
section
variable {w W W' : World} {sl : Value}
theorem SoB.step {X : List Nat} (h : SoB w W sl) (t : Turned X W W') (hX : ∀ k ∈ X, w.heap.size + 2 ≤ k) : SoB w W' sl :=
  ⟨h.turned.trans' t (fun k hk => by have := hX k hk; omega), t.same h.l (fun hx => by have := hX _ hx; omega), t.same h.r (fun hx => by have := hX _ hx; omega)⟩
theorem SoB.mild {X : List Nat} {N : Nat} (h : SoB w W sl) (m : Mild X N W W') (hN : w.heap.size ≤ N) (hX : ∀ k ∈ X, w.heap.size + 2 ≤ k) : SoB w W' sl :=
  ⟨h.turned.mild m hN (fun k hk => by have := hX k hk; omega), m.cells h.l (fun hx => by have := hX _ hx; omega), m.cells h.r (fun hx => by have := hX _ hx; omega)⟩
theorem SoB.setCell (h : SoB w W sl) {k i : Nat} (hk : w.heap.size + 2 ≤ k) (v : Value) : SoB w (W.setCell ⟨k, i, none⟩ v) sl :=
  ⟨h.turned.setCell (.inr (by simp; omega)) _, (Below.heap_setCell _ _ _ _ (by simp; omega)).trans h.l, (Below.heap_setCell _ _ _ _ (by simp; omega)).trans h.r⟩
theorem SoB.size (h : SoB w W sl) : w.heap.size + 2 ≤ W.heap.size := by have := lt_of_block h.r; omega
theorem SoB.new (w : World) (sl : Value) : SoB w ((w.alloc (.cells #[sl] 51)).alloc (.cells #[.bool false] 4)) sl := by
  refine ⟨((Turned.refl [] w).alloc _).alloc _, (Below.heap_alloc _ _ _ (by simp)).trans (heap_alloc_new w _), ?_⟩
  have := heap_alloc_new (w.alloc (.cells #[sl] 51)) (.cells #[.bool false] 4)
  simp only [World.size_alloc] at this
  exact this
end
/-- What stands while the loop runs. -/
def SoI (w : World) (sl : Value) (C P : Nat) (pre : List (Hm Int)) (W : World) : Prop :=
  SoB w W sl ∧ W.heap[C]? = some (.cells #[.int .u64 (lastK pre).1, .int .i64 (lastK pre).2] U.tKy (0, 0)) ∧ W.heap[C + 1]? = some (.cells #[.int .i64 (pre.length : Nat)] 3 (0, 0)) ∧ P + 2 ≤ W.heap.size

theorem keepsOthersN (W : World) (n : Nat) : KeepsOthers W (W.drewN n) := ⟨Nat.le_refl _, fun _ _ h _ => h⟩
/-- A round's end: the key and the count are set. -/
theorem SoI.next {w W : World} {sl : Value} {C m nq N : Nat} {La Lb : Int} {X : List Nat} {pre : List (Hm Int)} (hE : SoB w W sl) (hl : W.heap[C]? = some (.cells #[.int .u64 La, .int .i64 Lb] U.tKy (0, 0))) (hc : W.heap[C + 1]? = some (.cells #[.int .i64 (pre.length : Nat)] 3 (0, 0)))
    (hm : pre.length = m) (hz : C + 2 + 2 ≤ W.heap.size) (hwC : w.heap.size + 2 ≤ C) (hX : ∀ x ∈ X, x < C) (x : Hm Int) :
    KeepsFrom N W ((((W.drewN nq).setCell ⟨C, 0, none⟩ (.int .u64 x.1)).setCell ⟨C, 1, none⟩ (.int .i64 x.2.1)).setCell ⟨C + 1, 0, none⟩ (.int .i64 ((m : Int) + 1))) ∧
    SameAt ((C + 2) :: (C + 2 + 1) :: X) W ((((W.drewN nq).setCell ⟨C, 0, none⟩ (.int .u64 x.1)).setCell ⟨C, 1, none⟩ (.int .i64 x.2.1)).setCell ⟨C + 1, 0, none⟩ (.int .i64 ((m : Int) + 1))) ∧
    SoI w sl C (C + 2) (pre ++ [x]) ((((W.drewN nq).setCell ⟨C, 0, none⟩ (.int .u64 x.1)).setCell ⟨C, 1, none⟩ (.int .i64 x.2.1)).setCell ⟨C + 1, 0, none⟩ (.int .i64 ((m : Int) + 1))) := by
  have hl' : (W.drewN nq).heap[C]? = some (.cells #[.int .u64 La, .int .i64 Lb] U.tKy (0, 0)) := hl
  have hc' : (W.drewN nq).heap[C + 1]? = some (.cells #[.int .i64 (pre.length : Nat)] 3 (0, 0)) := hc
  have hE' : SoB w (W.drewN nq) sl := hE.step ((Turned.refl [] W).drewN nq) (by simp)
  have s1 := heap_setCell_same (W.drewN nq) C 0 _ _ (.int .u64 x.1) hl'
  have s2 := heap_setCell_same ((W.drewN nq).setCell ⟨C, 0, none⟩ (.int .u64 x.1)) C 1 _ _ (.int .i64 x.2.1) s1
  refine ⟨((keepsOthersN _ nq).trans (((KeepsOthers.setCell _ _ _).trans (KeepsOthers.setCell _ _ _)).trans (KeepsOthers.setCell _ _ _))).from _, fun k hk => ?_, ((hE'.setCell (by omega) _).setCell (by omega) _).setCell (by omega) _, ?_, ?_, ?_⟩
  · have hk2 : k ≠ C ∧ k ≠ C + 1 := by
      simp only [List.mem_cons] at hk
      rcases hk with rfl | rfl | hk
      · omega
      · omega
      · have := hX k hk; omega
    exact (Below.heap_setCell _ _ _ _ hk2.2).trans ((Below.heap_setCell _ _ _ _ hk2.1).trans (Below.heap_setCell _ _ _ _ hk2.1))
  · rw [Below.heap_setCell _ _ _ _ (by simp), s2, lastK_snoc]
    rfl
  · have c2 : (((W.drewN nq).setCell ⟨C, 0, none⟩ (.int .u64 x.1)).setCell ⟨C, 1, none⟩ (.int .i64 x.2.1)).heap[C + 1]? = some (.cells #[.int .i64 (pre.length : Nat)] 3 (0, 0)) :=
      (Below.heap_setCell _ _ _ _ (by simp)).trans ((Below.heap_setCell _ _ _ _ (by simp)).trans hc')
    rw [heap_setCell_same _ (C + 1) 0 _ _ (.int .i64 ((m : Int) + 1)) c2]
    simp [hm]
  · simpa [World.setCell] using hz

/-- What stands behind the loop. -/
structure SoE (w W : World) (sl : Value) (C D A n : Nat) (X : List Nat) : Prop where
  e : SoB w W sl
  c : W.heap[C + 1]? = some (.cells #[.int .i64 (n : Nat)] 3 (0, 0))
  h : U.HpC W A X 200 []
  d : W.heap[D]? = some (.deferred (some []))
theorem SoE.later {w W W' : World} {sl : Value} {C D A n : Nat} {X : List Nat} (h : SoE w W sl C D A n X) (t : Turned [] W W') : SoE w W' sl C D A n X :=
  ⟨h.e.step t (by simp), t.same h.c (by simp), h.h.keep t (by simp), t.same h.d (by simp)⟩
theorem SoE.mild {w W W' : World} {sl : Value} {C D A n N : Nat} {X : List Nat} (h : SoE w W sl C D A n X) (m : Mild [] N W W') (hN : w.heap.size ≤ N) (hX : ∀ x ∈ X, x < N) (hD : D < N) : SoE w W' sl C D A n X :=
  ⟨h.e.mild m hN (by simp), m.cells h.c (by simp), h.h.at_ (fun k hk => by
    have h2 : W.heap[k]? = some (W.heap[k]'(h.h.lt k hk)) := Array.getElem?_eq_getElem _
    rw [m.same k _ h2 (by simp) (.inl (hX k hk)), ← h2]), m.same D _ h.d (by simp) (.inl hD)⟩

set_option maxRecDepth 100000 in
set_option maxHeartbeats 4000000 in
theorem sorts_walk (ao : Option Addr) (b off n cap : Nat) (F : Nat → Int) (w : World) (hn : n ≤ 100) (hao : 0 < n → ao = some ⟨b, off, none⟩ ∧ b < w.heap.size)
    (hD : ∀ i, i < n → w.cell? ⟨b, off + i, none⟩ = some (.int .u64 (F i))) (hF : ∀ i, i < n → 0 ≤ F i ∧ F i ≤ 18446744073709551615) :
    Calls Try.prog 4 #[.slice ao n cap] w fun e w' => e = .returned (.bool true) ∧ Turned [] w w' := by
  have HD := Lib.hid hD
  have HAO := Lib.hid hao
  have HF := Lib.hid hF
  clear hD hao hF
  refine callsIn_wide.1 (?_ : CallsIn Fence.wide 20 _ _ _ _ _)
  refine callsIn_of_wp_marks Try.func4 rfl trivial ?_ rfl
  simp only [Try.ntmps4, List.size_toArray, List.length_cons, List.length_nil, Nat.reduceAdd, Nat.reduceSub, Array.replicate_succ, Array.replicate_zero, List.push_toArray, List.append_toArray, List.nil_append, List.cons_append]
  refine wpIn_wide.2 ?_
  have E0 := SoB.new w (.slice ao n cap)
  have HE0 := Lib.hid E0
  clear E0
  go_wp2_with fail
  refine (awake_any _).mono ?_
  rintro e w0 ⟨rfl, t0⟩
  have E1 : SoB w w0 (.slice ao n cap) := HE0.out.step t0 (by simp)
  have c1 := St.one_cell' E1.l
  have HE1 := Lib.hid E1
  clear t0 E1 HE0
  go_wp2_with fail
  refine (U.new_any 200 w0).mono ?_
  rintro e w1 ⟨rfl, h1, t1⟩
  have E2 : SoB w w1 (.slice ao n cap) := HE1.out.step t1 (by simp)
  have hX0 : ∀ k ∈ [w0.heap.size, w0.heap.size + 1], w.heap.size + 2 ≤ k := fun k hk => by have := HE1.out.size; simp at hk; omega
  have c2 := St.one_cell' E2.l
  have HE2 := Lib.hid E2
  obtain ⟨A, hA⟩ : ∃ A, w0.heap.size + 1 = A := ⟨_, rfl⟩
  rw [hA] at h1 hX0 ⊢
  have HA := Lib.hid (show U.HpC w1 A [w0.heap.size, A] 200 (nums F 0) from h1)
  have HX0 := Lib.hid hX0
  clear h1 t1 hA c1 E2 hX0
  go_wp2_with fail
  go_loopw [28] (fun i wr => ∃ k : Nat, k ≤ n ∧ i = .int .i64 k ∧ ∃ X, U.HpC wr A X 200 (nums F k) ∧ (∀ x ∈ X, w.heap.size + 2 ≤ x) ∧ SoB w wr (.slice ao n cap)) (fun i _ => n - (intOf i).toNat)
  case atStart => exact ⟨0, Nat.zero_le _, rfl, _, HA.out, HX0.out, HE2.out⟩
  case round =>
    obtain ⟨k, hk, rfl, X, hC, hX, hE⟩ := hrel
    by_cases hlt : k < n
    · obtain ⟨rfl, hb⟩ := HAO.out (by omega)
      have hcell := HD.out k hlt
      rw [← (hE.turned.below (B := w.heap.size) (by simp) (Nat.le_refl _)).cell (p := ⟨b, off + k, none⟩) hb] at hcell
      have hput := U.push_yes hC (F k, (k : Int), F k) (by simp [Lit.wf, IntKind.min, IntKind.max, IntKind.signed, IntKind.bits]; omega) (fun y hy => by
        obtain ⟨i, hi, rfl⟩ := nums_mem hy
        simp
        omega) (by rw [nums_len]; omega) (by rw [nums_len]; omega)
      rw [← nums_succ] at hput
      have HP := Lib.hid hput
      have HX := Lib.hid hX
      have HE := Lib.hid hE
      obtain ⟨zk, hzk⟩ : ∃ zk, F k = zk := ⟨_, rfl⟩
      rw [hzk] at hcell HP
      have l1 : (k : Int) < n := by omega
      clear hC hX hE hput hzk c2
      go_wp2_with fail
      refine HP.out.mono ?_
      rintro e wa ⟨rfl, X', a1, a2, a3⟩
      have hE' : SoB w wa (.slice (some ⟨b, off, none⟩) n cap) := HE.out.step a2 HX.out
      have hX' : ∀ x ∈ X', w.heap.size + 2 ≤ x := fun x hx => by
        rcases a3 x hx with h | h
        · exact HX.out x h
        · have := HE.out.size
          omega
      have A1 := Lib.hid a1
      have HX' := Lib.hid hX'
      have HE' := Lib.hid hE'
      clear a1 a2 a3 hE' hX'
      go_wp2
      go_roundw
      case rel => exact ⟨k + 1, by omega, by go_num, X', A1.out, HX'.out, HE'.out⟩
      case measure => simp [intOf]; omega
    · obtain rfl : k = n := by omega
      have hs := hE.size
      obtain ⟨C, hC0⟩ : ∃ C, wr.heap.size = C := ⟨_, rfl⟩
      obtain ⟨W3, hW3⟩ : ∃ W3, wr.alloc (.cells #[.int .u64 0, .int .i64 0] U.tKy) = W3 := ⟨_, rfl⟩
      obtain ⟨W4, hW4⟩ : ∃ W4, W3.alloc (.cells #[.int .i64 0] 3) = W4 := ⟨_, rfl⟩
      have z3 : W3.heap.size = C + 1 := by rw [← hW3, ← hC0]; simp
      have z4 : W4.heap.size = C + 2 := by rw [← hW4]; simp [z3]
      have t3 : Turned [] wr W3 := hW3 ▸ (Turned.refl [] wr).alloc _
      have t4 : Turned [] W3 W4 := hW4 ▸ (Turned.refl [] W3).alloc _
      have l4 : W4.heap[C]? = some (.cells #[.int .u64 0, .int .i64 0] U.tKy (0, 0)) := t4.same (by rw [← hC0, ← hW3]; exact heap_alloc_new wr _) (by simp)
      have n4 : W4.heap[C + 1]? = some (.cells #[.int .i64 0] 3 (0, 0)) := by rw [← z3, ← hW4]; exact heap_alloc_new W3 _
      have H4 := Lib.hid (And.intro (hE.step (t3.j t4) (by simp)) (And.intro l4 n4))
      have HC4 := Lib.hid (hC.keep (t3.j t4) (by simp))
      have HX := Lib.hid hX
      have HXC : Hid (∀ x ∈ X, x < C) := Lib.hid (fun x hx => by rw [← hC0]; exact hC.lt x hx)
      have HW3 := Lib.hid hW3
      have HW4 := Lib.hid hW4
      have HC0 := Lib.hid hC0
      have Z4 := Lib.hid z4
      have HwC : Hid (w.heap.size + 2 ≤ C) := Lib.hid (by rw [← hC0]; exact hs)
      clear hE hC hX t3 t4 l4 n4 hs hW3 hW4 hC0 z3 z4 c2 HA HX0 HE2 HE1
      go_wp2_with fail
      rw [HW3.out, HC0.out]
      rw [HW4.out]
      clear HW3 HW4
      refine (U.due_any _ 18446744073709551615 W4).mono ?_
      rintro e W6 ⟨rfl, hW6⟩
      rw [Z4.out]
      have t46 : Turned [] W4 W6 := hW6 ▸ ((Turned.refl [] W4).alloc _).alloc _
      have z6 : W6.heap.size = C + 4 := by rw [hW6]; simp [Z4.out]
      have p0 : W6.heap[C + 2]? = some (.cells #[.pointer (some ⟨A, 0, none⟩)] U.tPh (0, 0)) := by
        rw [hW6, ← Z4.out]
        exact (Below.heap_alloc _ _ _ (by simp)).trans (heap_alloc_new W4 _)
      have p1 : W6.heap[C + 2 + 1]? = some (.cells #[.int .u64 18446744073709551615] 28 (0, 0)) := by
        rw [hW6, ← Z4.out]
        have := heap_alloc_new (W4.alloc (.cells #[.pointer (some ⟨A, 0, none⟩)] U.tPh)) (.cells #[.int .u64 18446744073709551615] 28)
        simp only [World.size_alloc] at this
        exact this
      have HC6 := Lib.hid (HC4.out.keep t46 (by simp))
      have I0 : SoI w (.slice ao k cap) C (C + 2) [] W6 := ⟨H4.out.1.step t46 (by simp), t46.same H4.out.2.1 (by simp), t46.same H4.out.2.2 (by simp), by omega⟩
      have HI0 := Lib.hid I0
      have P0 := Lib.hid p0
      have P1 := Lib.hid p1
      have hPX : C + 2 ∉ X ∧ C + 2 + 1 ∉ X := ⟨fun hx => by have := HXC.out _ hx; omega, fun hx => by have := HXC.out _ hx; omega⟩
      clear p0 p1 t46 hW6 I0 H4 HC4 Z4 HC0
      go_wp2_with fail
      refine (wpIn_wide (n := 20)).1 ?_
      refine range_turns_boxed rfl (by omega) (gf := 33) (lb := #[.pointer (some ⟨C + 2, 0, none⟩), .pointer (some ⟨C + 2 + 1, 0, none⟩)]) rfl trivial (enters_of Try.func33 (by kernel_rfl) rfl)
        (X := X) (Y := (C + 2) :: (C + 2 + 1) :: X) (fun k hk => by have := HXC.out k hk; omega) (by intro k hk; simp at hk; rcases hk with rfl | rfl | hk; omega; omega; have := HXC.out k hk; omega)
        (U.due1_seq (by omega) HC6.out P0.out P1.out hPX.1 hPX.2) (fun _ => rfl) ?hS ?hSx
        (fun pre W => SoI w (.slice ao k cap) C (C + 2) pre W)
        (fun _ _ _ => False) ?hI (fun _ _ _ _ h _ => h.elim) ?h0 ?hsz U.tKy (fun x => #[.int .u64 x.1, .int .i64 x.2.1]) ?a1 ?assign ?body ?done ?stop
      case hS =>
        rintro xs A B ⟨D', h1, h2, h3⟩ hs
        exact ⟨D', h1, h2.at_ (fun k hk => hs k (by simp [hk])), h3⟩
      case hSx =>
        rintro xs A B ⟨D', h1, h2⟩ hs
        exact ⟨D', h1, h2.at_ (fun k hk => hs k (by simp [hk]))⟩
      case hI =>
        rintro xs A B ⟨h1, h2, h3, h4⟩ m
        rw [z6] at m
        exact ⟨h1.mild m (by have := HwC.out; omega) HX.out, m.cells h2 (fun hx => by have := HXC.out _ hx; omega), m.cells h3 (fun hx => by have := HXC.out _ hx; omega), Nat.le_trans h4 m.size⟩
      case h0 => exact HI0.out
      case hsz =>
        rintro xs W ⟨_, _, _, h4⟩
        omega
      case assign =>
        intro l x Bk W K hBk hK
        gi_wp2
        exact hK
      case body =>
        rintro l pre x Bk W hk hbk ⟨hE, hl, hc, hz⟩ ⟨D', hp⟩
        obtain ⟨i, hi, rfl, hlen, hord⟩ := hp.next
        rw [z6] at hbk
        obtain ⟨rfl, hb⟩ := HAO.out (by omega)
        have hcell := HD.out i hi
        rw [← (hE.turned.below (B := w.heap.size) (by simp) (Nat.le_refl _)).cell (p := ⟨b, off + i, none⟩) hb] at hcell
        obtain ⟨zi, hzi⟩ : ∃ z, F i = z := ⟨_, rfl⟩
        obtain ⟨⟨La, Lb⟩, hL⟩ : ∃ q, lastK pre = q := ⟨_, rfl⟩
        rw [hL] at hl hord
        rw [hzi] at hcell hk hord ⊢
        simp only at hl hord hk
        obtain ⟨k0, k1, _⟩ := two_cells hk
        obtain ⟨l0, l1, _⟩ := two_cells hl
        have c0 := St.one_cell' hc
        have cl := St.one_cell' hE.l
        have fl := fun j => frozen_of_row W C j _ _ hl
        have fc := frozen_of_row W (C + 1) 0 _ _ hc
        have i0 : (0 : Int) ≤ i := by omega
        have i1 : (i : Int) < k := by omega
        have d1 : decide ((i : Int) < 0) = false := by simp
        have d2 : decide ((k : Int) ≤ (i : Int)) = false := by simp; omega
        have d2' : decide (k ≤ i) = false := by simp; omega
        obtain ⟨m, hm⟩ : ∃ m, pre.length = m := ⟨_, rfl⟩
        rw [hm] at c0 hord hlen
        have m1 : (m : Int) < 100 := by omega
        have HE := Lib.hid hE
        have HL := Lib.hid hl
        have HC := Lib.hid hc
        have HK := Lib.hid hk
        have HM := Lib.hid hm
        have HZ := Lib.hid hz
        have HZi := Lib.hid hzi
        have hord := Lib.hid hord
        clear hE hl hc hk hm hz hzi hp hL hb hi hlen
        by_cases p0 : 0 < m
        · have d3 : decide ((0 : Int) < (m : Int)) = true := by simp; omega
          have d3' : decide (0 < m) = true := by simp; omega
          have ho := hord.out p0
          unfold KLt at ho
          simp only at ho
          have d4 : decide (zi < La) = false := by simp; omega
          by_cases q : zi = La
          · subst q
            have d5 : decide ((i : Int) ≤ Lb) = false := by simp; omega
            clear ho p0
            gi_wp2
            refine wpRound_quiet (by kernel_rfl) ?_ (by kernel_rfl) (by kernel_rfl) ?_
            · rintro ⟨_, _, h⟩; exact h
            repeat (go_big_quiet_step (fail))
            refine wpQuiet_nil ?_
            intro _ hw'
            obtain ⟨nq, hw''⟩ := hw'
            subst hw''
            gi_wp2
            exact SoI.next HE.out HL.out HC.out HM.out HZ.out HwC.out HXC.out (zi, (i : Int), zi)
          · have d5 : (zi == La) = false := by simpa using q
            clear ho p0 q
            gi_wp2
            refine wpRound_quiet (by kernel_rfl) ?_ (by kernel_rfl) (by kernel_rfl) ?_
            · rintro ⟨_, _, h⟩; exact h
            repeat (go_big_quiet_step (fail))
            refine wpQuiet_nil ?_
            intro _ hw'
            obtain ⟨nq, hw''⟩ := hw'
            subst hw''
            gi_wp2
            exact SoI.next HE.out HL.out HC.out HM.out HZ.out HwC.out HXC.out (zi, (i : Int), zi)
        · have d3 : decide ((0 : Int) < (m : Int)) = false := by simp; omega
          have d3' : decide (0 < m) = false := by simp; omega
          clear p0
          gi_wp2
          refine wpRound_quiet (by kernel_rfl) ?_ (by kernel_rfl) (by kernel_rfl) ?_
          · rintro ⟨_, _, h⟩; exact h
          repeat (go_big_quiet_step (fail))
          refine wpQuiet_nil ?_
          intro _ hw'
          obtain ⟨nq, hw''⟩ := hw'
          subst hw''
          gi_wp2
          exact SoI.next HE.out HL.out HC.out HM.out HZ.out HwC.out HXC.out (zi, (i : Int), zi)
      case done =>
        rintro D xs W hD ⟨D', hp, hh, ha⟩ ⟨hE, hl, hc, hz⟩ hK
        rw [z6] at hD
        obtain ⟨rfl, hx⟩ := hp.through (fun i hi => (HF.out i hi).2) ha
        rw [hx] at hc
        have HS := Lib.hid (⟨hE, hc, hh, hK⟩ : SoE w W (.slice ao k cap) C D A k X)
        have HDl := Lib.hid (And.intro hD (lt_of_block hK))
        clear hp ha hE hl hc hh hK hx hz hD HC6 HI0 P0 P1 hPX z6
        go_wp2_with fail
        refine (show Calls Try.prog 10 #[.pointer none] W _ from pop_none none (fun k h => by cases h)).mono ?_
        rintro e V1 ⟨rfl, t1⟩
        obtain ⟨V2, hV2⟩ : ∃ V2, V1.alloc (.cells #[.int .u64 0, .int .i64 0] tKy) = V2 := ⟨_, rfl⟩
        have HS2 := Lib.hid (HS.out.later (t1.alloc (.cells #[.int .u64 0, .int .i64 0] tKy)))
        rw [hV2] at HS2
        have hs1 := t1.size
        have HV2 := Lib.hid hV2
        clear t1 HS hV2
        go_wp2_with fail
        rw [HV2.out]
        refine (show Calls Try.prog 16 #[.pointer none] V2 _ from peek_none none (fun k h => by cases h)).mono ?_
        rintro e V3 ⟨rfl, t3⟩
        obtain ⟨V4, hV4⟩ : ∃ V4, V3.alloc (.cells #[.int .u64 0, .int .i64 0] tKy) = V4 := ⟨_, rfl⟩
        have HS4 := Lib.hid (HS2.out.later (t3.alloc (.cells #[.int .u64 0, .int .i64 0] tKy)))
        rw [hV4] at HS4
        have HV4 := Lib.hid hV4
        clear t3 HS2 HV2 hV4
        go_wp2_with fail
        rw [HV4.out]
        refine (remove_nil V4 0).mono ?_
        rintro e V5 ⟨rfl, t5⟩
        obtain ⟨V6, hV6⟩ : ∃ V6, V5.alloc (.cells #[.int .u64 0, .int .i64 0] tKy) = V6 := ⟨_, rfl⟩
        have HS6 := Lib.hid (HS4.out.later (t5.alloc (.cells #[.int .u64 0, .int .i64 0] tKy)))
        rw [hV6] at HS6
        have HV6 := Lib.hid hV6
        clear t5 HS4 HV4 hV6
        go_wp2_with fail
        rw [HV6.out]
        refine (due_any none 18446744073709551615 V6).mono ?_
        rintro e V7 ⟨rfl, hV7⟩
        obtain ⟨P, hP⟩ : ∃ P, V6.heap.size = P := ⟨_, rfl⟩
        rw [hP]
        have p0 : V7.heap[P]? = some (.cells #[.pointer none] tPh (0, 0)) := by
          rw [hV7, ← hP]
          exact (Below.heap_alloc _ _ _ (by simp)).trans (heap_alloc_new V6 _)
        have p1 : V7.heap[P + 1]? = some (.cells #[.int .u64 18446744073709551615] 28 (0, 0)) := by
          rw [hV7, ← hP]
          have := heap_alloc_new (V6.alloc (.cells #[.pointer none] tPh)) (.cells #[.int .u64 18446744073709551615] 28)
          simp only [World.size_alloc] at this
          exact this
        have HS7 := Lib.hid (HS6.out.later (hV7 ▸ ((Turned.refl [] V6).alloc _).alloc _ : Turned [] V6 V7))
        have P0 := Lib.hid p0
        have P1 := Lib.hid p1
        clear p0 p1 hV7 HV6 HS6 hP
        go_wp2_with fail
        refine (wpIn_wide (n := 20)).1 ?_
        refine range_turns rfl (by omega) (gf := 36) (lb := #[.pointer (some ⟨P, 0, none⟩), .pointer (some ⟨P + 1, 0, none⟩)]) rfl trivial (enters_of Try.func36 (by kernel_rfl) rfl)
          (X := []) (Y := []) (by simp) (by simp) (due1_nil (by omega) P0.out P1.out) (fun _ => rfl) (fun _ _ _ h _ => h) (fun _ _ _ h _ => h)
          (fun _ W' => SoE w W' (.slice ao k cap) C D A k X) (fun _ _ _ => False) ?hI2 (fun _ _ _ _ h _ => h.elim) HS7.out (fun _ _ _ => True) (fun _ _ _ _ _ _ => trivial) ?assign2 (fun _ _ _ _ _ _ _ h => h.elim) ?done2 (fun _ _ _ _ _ h _ _ => h.elim)
        case hI2 =>
          intro xs A' B h m
          have hw := HS7.out
          exact h.mild m hw.e.turned.size (fun x hx => hw.h.lt x hx) (lt_of_block hw.d)
        case assign2 =>
          intro l pre x W' K hI hK
          gi_wp2
          exact hK _ _ (KeepsFrom.refl _ _) (SameAt.refl _ _) hI trivial
        case done2 =>
          rintro D2 xs W2 hD2 _ hS hK2
          have c0 := St.one_cell' hS.c
          have cl := St.one_cell' hS.e.l
          have HS8 := Lib.hid hS
          have HK8 := Lib.hid hK2
          have hDD : D < D2 := Nat.lt_of_lt_of_le (lt_of_block HS7.out.d) hD2
          clear hS hK2 HS7 P0 P1 hD2
          go_wp2_with fail
          refine (U.len_any HS8.out.h).mono ?_
          rintro e W3 ⟨rfl, rfl⟩
          go_wp2_with fail
          refine (push_nil 0 0 0 _).mono ?_
          rintro e W4 ⟨rfl, t4⟩
          have HS9 := Lib.hid (HS8.out.later t4)
          have HK9 := Lib.hid (t4.same HK8.out (by simp))
          clear t4 HS8 HK8 c0 cl
          go_wp2_with fail
          refine (move_nil _ 0 0).mono ?_
          rintro e W5 ⟨rfl, rfl⟩
          go_wp2_with fail
          refine (len_nil _).mono ?_
          rintro e W6' ⟨rfl, rfl⟩
          have r9 := St.one_cell' HS9.out.e.r
          have rf := frozen_of_row W4 (w.heap.size + 1) 0 _ _ HS9.out.e.r
          go_wp2
          have hw1 := HDl.out.1
          have hw2 := HwC.out
          have hne : D2 ≠ D := by omega
          have n1 : D ≠ w.heap.size + 1 := by omega
          have n2 : D2 ≠ w.heap.size + 1 := by omega
          have k2 : (W4.setCell ⟨w.heap.size + 1, 0, none⟩ (.bool true)).heap[D2]? = some (.deferred (some [])) := (Below.heap_setCell _ _ _ _ n2).trans HK9.out
          have k1 : ((W4.setCell ⟨w.heap.size + 1, 0, none⟩ (.bool true)).putObj D2 (.deferred none)).heap[D]? = some (.deferred (some [])) :=
            (World.putObj_heap_other (Ne.symm hne)).trans ((Below.heap_setCell _ _ _ _ n1).trans HS9.out.d)
          have hr : (((W4.setCell ⟨w.heap.size + 1, 0, none⟩ (.bool true)).putObj D2 (.deferred none)).putObj D (.deferred none)).heap[w.heap.size + 1]? = some (.cells #[.bool true] 4 (0, 0)) := by
            refine (World.putObj_heap_other (Ne.symm n1)).trans ((World.putObj_heap_other (Ne.symm n2)).trans ?_)
            rw [heap_setCell_same _ _ _ _ _ _ HS9.out.e.r]
            rfl
          refine ⟨by simp, .inl ⟨_, _, rfl, run_takeDeferred k2, by simp, .inl ⟨_, _, rfl, run_takeDeferred k1, ?_⟩⟩⟩
          exact ⟨_, bool_result rfl rfl hr, rfl, ((HS9.out.e.turned.setCell (.inr (by simp)) _).put (by omega) _).put (by omega) _⟩
      case stop =>
        rintro D c xs W _ _ h _
        exact h.elim
end Go.Proofs.Ythhdidcmiiglbaa
