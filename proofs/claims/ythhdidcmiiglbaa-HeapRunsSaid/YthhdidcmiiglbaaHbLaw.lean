/-
  due: are those that are due the document's?
-/
import Derived.Test.YthhdidcmiiglbaaHbDue
import Derived.Test.YthhdidcmiiglbaaHbFirst
import Derived.Test.YthhdidcmiiglbaaHbAwake
import Derived.Test.YthhdidcmiiglbaaArRound
import Derived.Laws.StructEq
import Derived.Shelf.RegionOpen
import Derived.Deep.RegionHeld3
namespace Go.Proofs.Ythhdidcmiiglbaa
open Go.RowKit Go.Maps Go.Shelf
attribute [local go_sem] Oper.semAt_some

/-- A REGION THAT DRAWS ITS ORDER, LOADS NEXT TO CALLS, IN A ROUND. -/
theorem wpRound_held {P : Program} {id r n : Nat} {Q : Exit → Act → World → Prop} {a : Act} {w : World} {l : List Oper} (S : World → Prop) (hnd : noDefer l = true) (hQ : ¬ LetsOut Q) (hm : P.follows .mixedOrders = true) (hS : S w.drew)
    (h : S w.drew → wpAnyH P .any l.toArray Q S l.toArray.size (Array.replicate l.toArray.size false) a w.drew) : (Code.region id l.toArray true).wpIn (Fence.wide.inRound r) n P Q a w :=
  wpIn_region_any hm (wpAnyIn_of_wpAny (by simpa using hnd) hQ _ _ _ _ (wpAny_of_held _ _ _ _ (h hS)))
/-- What is told of cells abides. -/
theorem LAt.mild {α : Type} {tS tE : TypeId} {k : Nat} {enc : α → List Value} {cs : Value → Array Value} {A B : World} {b : Nat} {Z X : List Nat} {N : Nat} {L : List α} (h : LAt tS tE k enc cs A b Z L) (m : Mild X N A B) (hd : ∀ k ∈ Z, k ∉ X) : LAt tS tE k enc cs B b Z L := by
  obtain ⟨v, h1, h2, rfl⟩ := h
  refine ⟨v, m.cells h1 (hd _ (by simp)), ownsRow_same h2 (fun k hk _ => ?_), rfl⟩
  obtain ⟨cur, hc⟩ := ownsRow_type h2 k hk
  rw [m.cells hc (hd k (List.mem_cons_of_mem _ hk)), hc]
theorem LAt.isCells {α : Type} {tS tE : TypeId} {k : Nat} {enc : α → List Value} {cs : Value → Array Value} {A : World} {b : Nat} {Z : List Nat} {L : List α} (h : LAt tS tE k enc cs A b Z L) : ∀ k ∈ Z, ∃ c t, A.heap[k]? = some (.cells c t (0, 0)) := by
  obtain ⟨v, h1, h2, rfl⟩ := h
  intro k hk
  rcases List.mem_cons.1 hk with rfl | hk
  · exact ⟨_, _, h1⟩
  · obtain ⟨cur, hc⟩ := ownsRow_type h2 k hk
    exact ⟨cur, _, hc⟩
theorem LAt.kinds {α : Type} {tS tE : TypeId} {k : Nat} {enc : α → List Value} {cs : Value → Array Value} {A : World} {b : Nat} {Z : List Nat} {L : List α} (h : LAt tS tE k enc cs A b Z L) : ∀ k ∈ Z, (∃ c, A.heap[k]? = some (.cells c tS (0, 0))) ∨ (∃ c, A.heap[k]? = some (.cells c tE (0, 0))) := by
  obtain ⟨v, h1, h2, rfl⟩ := h
  intro k hk
  rcases List.mem_cons.1 hk with rfl | hk
  · exact .inl ⟨_, h1⟩
  · obtain ⟨cur, hc⟩ := ownsRow_type h2 k hk
    exact .inr ⟨cur, hc⟩
theorem keepsOthers_turned {Z : List Nat} {A B : World} (h : Turned Z A B) (hz : ∀ k ∈ Z, ∃ c t, A.heap[k]? = some (.cells c t (0, 0))) : KeepsOthers A B :=
  ⟨h.size, fun k o hk ho => (h.block k (Array.getElem?_eq_some_iff.1 hk).1 (fun hx => by
    obtain ⟨c, t, hc⟩ := hz k hx
    rw [hk] at hc
    cases hc
    cases ho)).trans hk⟩
theorem Turned.mild2 {X Z : List Nat} {N : Nat} {w A B : World} (h : Turned Z w A) (m : Mild X N A B) (hN : w.heap.size ≤ N) (hX : ∀ k ∈ X, k ∈ Z) : Turned Z w B :=
  ⟨m.os.trans h.os, m.tape.trans h.tape, m.output.trans h.output, Nat.le_trans h.size m.size, fun k hk hy => by
    have h1 := h.block k hk hy
    have h2 : A.heap[k]? = some (A.heap[k]'(by have := h.size; omega)) := Array.getElem?_eq_getElem _
    rw [m.same k _ h2 (fun hx => hy (hX k hx)) (.inl (by omega)), ← h2, h1]⟩

/-- The boxes of due: the document's heap, until, most, n, same. -/
structure DueB (w W : World) (A r : Nat) (u most : Int) (c : Int) (same : Bool) : Prop where
  r : W.heap[A]? = some (.cells #[.pointer (some ⟨r, 0, none⟩)] 26 (0, 0))
  u : W.heap[A + 1]? = some (.cells #[.int .u64 u] 28 (0, 0))
  most : W.heap[A + 2]? = some (.cells #[.int .i64 most] 3 (0, 0))
  n : W.heap[A + 3]? = some (.cells #[.int .i64 c] 3 (0, 0))
  same : W.heap[A + 4]? = some (.cells #[.bool same] 4 (0, 0))
theorem DueB.mild {w W B : World} {A r N : Nat} {u most c : Int} {same : Bool} {X : List Nat} (h : DueB w W A r u most c same) (m : Mild X N W B) (hX : ∀ k ∈ X, k < A) : DueB w B A r u most c same :=
  ⟨m.cells h.r (fun hx => by have := hX _ hx; omega), m.cells h.u (fun hx => by have := hX _ hx; omega), m.cells h.most (fun hx => by have := hX _ hx; omega), m.cells h.n (fun hx => by have := hX _ hx; omega), m.cells h.same (fun hx => by have := hX _ hx; omega)⟩
theorem DueB.keep {w W B : World} {A r : Nat} {u most c : Int} {same : Bool} {X : List Nat} (h : DueB w W A r u most c same) (m : Turned X W B) (hX : ∀ k ∈ X, k < A ∨ A + 5 ≤ k) : DueB w B A r u most c same :=
  ⟨m.same h.r (fun hx => by have := hX _ hx; omega), m.same h.u (fun hx => by have := hX _ hx; omega), m.same h.most (fun hx => by have := hX _ hx; omega), m.same h.n (fun hx => by have := hX _ hx; omega), m.same h.same (fun hx => by have := hX _ hx; omega)⟩

/-- What stands while due's loop runs, pre having come. -/
def DueI (w : World) (r : Nat) (X Y : List Nat) (m u most : Int) (D pre : List It) (W : World) : Prop :=
  ∃ DD Y', R4 W r Y' m DD ∧ Pops u D pre DD ∧ (∀ k ∈ Y', k ∈ Y ∨ w.heap.size + 7 ≤ k) ∧ DueB w W w.heap.size r u most (pre.length : Nat) true ∧ Turned (X ++ Y) w W ∧ w.heap.size + 7 ≤ W.heap.size
theorem DueI.mild {w : World} {r : Nat} {X Y : List Nat} {m u most : Int} {D pre : List It} {A B : World} {X' : List Nat} (h : DueI w r X Y m u most D pre A) (ml : Mild X' (w.heap.size + 7) A B) (hX' : ∀ k ∈ X', k ∈ X) (hX : ∀ k ∈ X, k < w.heap.size) (hXY : ∀ k ∈ X, k ∉ Y) : DueI w r X Y m u most D pre B := by
  obtain ⟨DD, Y', h1, h2, h3, h4, h5, h6⟩ := h
  refine ⟨DD, Y', h1.mild ml (fun k hk hx => ?_), h2, h3, h4.mild ml (fun k hk => hX k (hX' k hk)), h5.mild2 ml (by omega) (fun k hk => List.mem_append_left _ (hX' k hk)), Nat.le_trans h6 ml.size⟩
  have hkX := hX' k hx
  rcases h3 k hk with h | h
  · exact hXY k hkX h
  · have := hX k hkX
    omega

theorem due_end {w W V3 : World} {A r : Nat} {X Y Y' Y2 : List Nat} {m u most : Int} {D pre DD' : List It} {x : It} (hA : w.heap.size = A) (hsz : A + 7 ≤ W.heap.size) (hYc : ∀ k ∈ Y', ∃ c t, W.heap[k]? = some (.cells c t (0, 0)))
    (hY' : ∀ k ∈ Y', k ∈ Y ∨ A + 7 ≤ k) (hX : ∀ k ∈ X, k < A) (hY : ∀ k ∈ Y, k < A) (hXY : ∀ k ∈ X, k ∉ Y) (T0 : Turned (X ++ Y) w W) (T3 : Turned (W.heap.size :: Y') W V3) (R3 : R4 V3 r Y2 m DD') (hY2 : ∀ k ∈ Y2, k ∈ Y' ∨ W.heap.size ≤ k)
    (db : DueB w V3 A r u most (pre.length : Nat) true) (hp : Pops u D (pre ++ [x]) DD') :
    KeepsFrom (A + 7) W ((V3.setCell ⟨A + 4, 0, none⟩ (.bool true)).setCell ⟨A + 3, 0, none⟩ (.int .i64 ((pre.length : Int) + 1))) ∧
    SameAt ((A + 5) :: (A + 5 + 1) :: X) W ((V3.setCell ⟨A + 4, 0, none⟩ (.bool true)).setCell ⟨A + 3, 0, none⟩ (.int .i64 ((pre.length : Int) + 1))) ∧
    DueI w r X Y m u most D (pre ++ [x]) ((V3.setCell ⟨A + 4, 0, none⟩ (.bool true)).setCell ⟨A + 3, 0, none⟩ (.int .i64 ((pre.length : Int) + 1))) := by
  have tS : Turned [A + 3, A + 4] V3 ((V3.setCell ⟨A + 4, 0, none⟩ (.bool true)).setCell ⟨A + 3, 0, none⟩ (.int .i64 ((pre.length : Int) + 1))) := ((Turned.refl _ V3).setCell (.inl (by simp)) _).setCell (.inl (by simp)) _
  obtain ⟨V4, hV4⟩ : ∃ V4, (V3.setCell ⟨A + 4, 0, none⟩ (.bool true)).setCell ⟨A + 3, 0, none⟩ (.int .i64 ((pre.length : Int) + 1)) = V4 := ⟨_, rfl⟩
  have n4 : V4.heap[A + 3]? = some (.cells #[.int .i64 ((pre.length : Int) + 1)] 3 (0, 0)) := by
    rw [← hV4, heap_setCell_same _ _ _ _ _ _ ((Below.heap_setCell _ _ _ _ (by simp)).trans db.n)]
    rfl
  have s4 : V4.heap[A + 4]? = some (.cells #[.bool true] 4 (0, 0)) := by
    rw [← hV4]
    refine (Below.heap_setCell _ _ _ _ (by simp)).trans ?_
    rw [heap_setCell_same _ _ _ _ _ _ db.same]
    rfl
  rw [hV4] at tS ⊢
  have hs3 := T3.size
  have hs4 := tS.size
  refine ⟨⟨by omega, fun k o hk ho hc => ?_⟩, fun k hk => ?_, ⟨DD', Y2, LAt.keep R3 tS (fun k hk hx => ?_), hp, fun k hk => ?_, ?_, ?_, by omega⟩⟩
  · have hk1 : k ∉ W.heap.size :: Y' := by
      intro hx
      rcases List.mem_cons.1 hx with h | h
      · have := (Array.getElem?_eq_some_iff.1 ho).1
        omega
      · obtain ⟨c, t, hct⟩ := hYc k h
        rw [ho] at hct
        cases hct
        cases hc
    exact tS.same (T3.same ho hk1) (by simp; omega)
  · have hkW : k < W.heap.size := by
      simp at hk
      rcases hk with rfl | rfl | hk
      · omega
      · omega
      · have := hX k hk; omega
    have hk1 : k ∉ W.heap.size :: Y' := by
      intro hx
      rcases List.mem_cons.1 hx with h | h
      · omega
      · rcases hY' k h with h2 | h2
        · have := hY k h2
          simp at hk
          rcases hk with rfl | rfl | hk
          · omega
          · omega
          · exact hXY k hk h2
        · simp at hk
          rcases hk with rfl | rfl | hk
          · omega
          · omega
          · have := hX k hk; omega
    have hk2 : k ∉ [A + 3, A + 4] := by
      simp at hk ⊢
      rcases hk with rfl | rfl | hk
      · omega
      · omega
      · have := hX k hk; omega
    exact (tS.block k (by omega) hk2).trans (T3.block k hkW hk1)
  · have h1 : k ∈ Y ∨ A + 7 ≤ k := by
      rcases hY2 k hk with h | h
      · exact hY' k h
      · exact .inr (by omega)
    simp at hx
    rcases h1 with h | h
    · have := hY k h; omega
    · omega
  · rw [hA]
    rcases hY2 k hk with h | h
    · exact hY' k h
    · exact .inr (by omega)
  · rw [hA]
    refine ⟨tS.same db.r (by simp), tS.same db.u (by simp), tS.same db.most (by simp), ?_, s4⟩
    rw [n4]
    simp
  · refine (T0.trans T3 (fun k hk => ?_)).trans tS (fun k hk => .inr (by simp at hk; omega))
    rcases List.mem_cons.1 hk with h | h
    · exact .inr (by omega)
    · rcases hY' k h with h | h
      · exact .inl (List.mem_append_right _ h)
      · exact .inr (by omega)

set_option maxRecDepth 100000 in
set_option maxHeartbeats 8000000 in
theorem law_due {w : World} {b r : Nat} {X Y : List Nat} {m u most : Int} {D : List It} (hC : HpC w b X m D) (hR : R4 w r Y m D) (hXY : ∀ k ∈ X, k ∉ Y) (hm0 : 0 ≤ most) (hm1 : most ≤ 5000) (hD : D.length ≤ 1000) :
    Calls Try.prog 17 #[.pointer (some ⟨b, 0, none⟩), .pointer (some ⟨r, 0, none⟩), .int .u64 u, .int .i64 most] w fun e w' => e = .returned (.bool true) ∧
      ∃ D' Y', HpC w' b X m D' ∧ R4 w' r Y' m D' ∧ Turned (X ++ Y) w w' ∧ Newer Y w.heap.size Y' ∧ (∀ x ∈ D', x ∈ D) ∧ D'.length ≤ D.length ∧ (D'.length + most < D.length ∨ ∀ y ∈ D', u < y.1) := by
  have hX := hC.lt
  have hY := hR.lt
  obtain ⟨W1, hW1⟩ : ∃ W1, w.alloc (.cells #[.pointer (some ⟨r, 0, none⟩)] 26) = W1 := ⟨_, rfl⟩
  obtain ⟨W2, hW2⟩ : ∃ W2, W1.alloc (.cells #[.int .u64 u] 28) = W2 := ⟨_, rfl⟩
  obtain ⟨W3, hW3⟩ : ∃ W3, W2.alloc (.cells #[.int .i64 most] 3) = W3 := ⟨_, rfl⟩
  obtain ⟨W4, hW4⟩ : ∃ W4, W3.alloc (.cells #[.int .i64 0] 3) = W4 := ⟨_, rfl⟩
  obtain ⟨W5, hW5⟩ : ∃ W5, W4.alloc (.cells #[.bool true] 4) = W5 := ⟨_, rfl⟩
  have t1 : Turned [] w W1 := hW1 ▸ (Turned.refl [] w).alloc _
  have t2 : Turned [] W1 W2 := hW2 ▸ (Turned.refl [] W1).alloc _
  have t3 : Turned [] W2 W3 := hW3 ▸ (Turned.refl [] W2).alloc _
  have t4 : Turned [] W3 W4 := hW4 ▸ (Turned.refl [] W3).alloc _
  have t5 : Turned [] W4 W5 := hW5 ▸ (Turned.refl [] W4).alloc _
  have z1 : W1.heap.size = w.heap.size + 1 := by rw [← hW1]; simp
  have z2 : W2.heap.size = w.heap.size + 2 := by rw [← hW2]; simp; omega
  have z3 : W3.heap.size = w.heap.size + 3 := by rw [← hW3]; simp; omega
  have z4 : W4.heap.size = w.heap.size + 4 := by rw [← hW4]; simp; omega
  have z5 : W5.heap.size = w.heap.size + 5 := by rw [← hW5]; simp; omega
  have b0 : W5.heap[w.heap.size]? = some (.cells #[.pointer (some ⟨r, 0, none⟩)] 26 (0, 0)) := ((((t2.j t3).j t4).j t5)).same (hW1 ▸ heap_alloc_new w _) (by simp)
  have b1 : W5.heap[w.heap.size + 1]? = some (.cells #[.int .u64 u] 28 (0, 0)) := ((t3.j t4).j t5).same (by rw [← z1, ← hW2]; exact heap_alloc_new W1 _) (by simp)
  have b2 : W5.heap[w.heap.size + 2]? = some (.cells #[.int .i64 most] 3 (0, 0)) := (t4.j t5).same (by rw [← z2, ← hW3]; exact heap_alloc_new W2 _) (by simp)
  have b3 : W5.heap[w.heap.size + 3]? = some (.cells #[.int .i64 0] 3 (0, 0)) := t5.same (by rw [← z3, ← hW4]; exact heap_alloc_new W3 _) (by simp)
  have b4 : W5.heap[w.heap.size + 4]? = some (.cells #[.bool true] 4 (0, 0)) := by rw [← z4, ← hW5]; exact heap_alloc_new W4 _
  have t05 : Turned [] w W5 := (((t1.j t2).j t3).j t4).j t5
  have hC5 := hC.keep t05 (by simp)
  have hR5 := LAt.keep hR t05 (by simp)
  have c1 : W3.cell? ⟨w.heap.size + 1, 0, none⟩ = some (.int .u64 u) := one_cell' (t3.same (by rw [← z1, ← hW2]; exact heap_alloc_new W1 _) (by simp))
  have DB := Lib.hid (⟨b0, b1, b2, b3, b4⟩ : DueB w W5 w.heap.size r u most 0 true)
  obtain ⟨A, hA⟩ : ∃ A, w.heap.size = A := ⟨_, rfl⟩
  rw [hA] at z1 z2 z3 z4 z5 c1 DB
  have HC5 := Lib.hid hC5
  have HR5 := Lib.hid hR5
  have HT5 := Lib.hid t05
  have HX := Lib.hid hX
  have HY := Lib.hid hY
  have HXY := Lib.hid hXY
  have HW4 := Lib.hid hW4
  have HW5 := Lib.hid hW5
  have Z4 := Lib.hid z4
  have Z5 := Lib.hid z5
  clear hW4 hW5 z4 z5 t1 t2 t3 t4 t5 b0 b1 b2 b3 b4 t05 hC5 hR5 hX hY hXY hC hR
  refine callsIn_wide.1 (?_ : CallsIn Fence.wide 20 _ _ _ _ _)
  refine callsIn_of_wp_marks Try.func17 rfl trivial ?_ rfl
  simp only [Try.ntmps17, List.size_toArray, List.length_cons, List.length_nil, Nat.reduceAdd, Nat.reduceSub, Array.replicate_succ, Array.replicate_zero, List.push_toArray, List.append_toArray, List.nil_append, List.cons_append]
  refine wpIn_wide.2 ?_
  go_wp2_with fail
  rw [HW4.out, HW5.out, show A + 3 + 1 = A + 4 from rfl]
  refine (due_any _ u W5).mono ?_
  rintro e W7 ⟨rfl, hW7⟩
  rw [Z5.out]
  have t57 : Turned [] W5 W7 := hW7 ▸ ((Turned.refl [] W5).alloc _).alloc _
  have z7 : W7.heap.size = A + 7 := by rw [hW7]; simp [Z5.out]
  have p0 : W7.heap[A + 5]? = some (.cells #[.pointer (some ⟨b, 0, none⟩)] tPh (0, 0)) := by
    rw [hW7, ← Z5.out]
    exact (Below.heap_alloc _ _ _ (by simp)).trans (heap_alloc_new W5 _)
  have p1 : W7.heap[A + 5 + 1]? = some (.cells #[.int .u64 u] 28 (0, 0)) := by
    rw [hW7, ← Z5.out]
    have := heap_alloc_new (W5.alloc (.cells #[.pointer (some ⟨b, 0, none⟩)] tPh)) (.cells #[.int .u64 u] 28)
    simp only [World.size_alloc] at this
    exact this
  have HC7 := Lib.hid (HC5.out.keep t57 (by simp))
  have I0 : DueI w r X Y m u most D [] W7 := ⟨D, Y, LAt.keep HR5.out t57 (by simp), .none, fun k hk => .inl hk, by rw [hA]; exact DB.out.keep t57 (by simp), (HT5.out.j t57).up, by omega⟩
  have HI0 := Lib.hid I0
  have P0 := Lib.hid p0
  have P1 := Lib.hid p1
  have ZX : Hid (∀ k ∈ X, k < A) := Lib.hid (fun k hk => by have := HX.out k hk; omega)
  have hPX : A + 5 ∉ X ∧ A + 5 + 1 ∉ X := ⟨fun hx => by have := ZX.out _ hx; omega, fun hx => by have := ZX.out _ hx; omega⟩
  clear p0 p1 t57 hW7 I0 c1
  go_wp2_with fail
  refine (wpIn_wide (n := 20)).1 ?_
  refine range_turns_boxed rfl (by omega) (gf := 36) (lb := #[.pointer (some ⟨A + 5, 0, none⟩), .pointer (some ⟨A + 5 + 1, 0, none⟩)]) rfl trivial (enters_of Try.func36 (by kernel_rfl) rfl)
    (X := X) (Y := (A + 5) :: (A + 5 + 1) :: X) (fun k hk => by have := ZX.out k hk; omega) (by intro k hk; simp at hk; rcases hk with rfl | rfl | hk; omega; omega; have := ZX.out k hk; omega)
    (due1_seq (by omega) HC7.out P0.out P1.out hPX.1 hPX.2) (fun _ => rfl) ?hS ?hSx
    (fun pre W => DueI w r X Y m u most D pre W ∧ (pre.length : Int) ≤ most)
    (fun c pre W => c = .exit 0 ∧ DueI w r X Y m u most D pre W ∧ (pre.length : Int) = most + 1) ?hI ?hIx ?h0 ?hsz tKy (fun x => #[.int .u64 x.1, .int .i64 x.2.1]) ?a1 ?assign ?body ?done ?stop
  case hS =>
    rintro xs A B ⟨D', h1, h2, h3⟩ hs
    exact ⟨D', h1, h2.at_ (fun k hk => hs k (by simp [hk])), h3⟩
  case hSx =>
    rintro xs A B ⟨D', h1, h2⟩ hs
    exact ⟨D', h1, h2.at_ (fun k hk => hs k (by simp [hk]))⟩
  case hI =>
    rintro xs A' B ⟨h1, h2⟩ ml
    rw [z7, ← hA] at ml
    exact ⟨h1.mild ml (fun _ h => h) HX.out HXY.out, h2⟩
  case hIx =>
    rintro c xs A' B ⟨hc, h1, h2⟩ ml
    rw [z7, ← hA] at ml
    exact ⟨hc, h1.mild ml (by simp) HX.out HXY.out, h2⟩
  case h0 => exact ⟨HI0.out, by simpa using hm0⟩
  case hsz =>
    rintro xs W ⟨⟨_, _, _, _, _, _, _, h6⟩, _⟩
    omega
  case assign =>
    intro l x Bk W K hBk hK
    gi_wp2
    exact hK
  case body =>
    rintro l pre ⟨x1, x2, x3⟩ Bk W hk hbk ⟨hI, hle⟩ ⟨D'', hp⟩
    rw [z7] at hbk
    obtain ⟨DD, Y', hr, hpo, hY', hdb, hT, hsz⟩ := hI
    rw [hA] at hY' hdb hsz
    obtain ⟨D1, h1, h2, h3, h4⟩ := hp.split
    have hpd := (hpo.left h1).trans h2
    have hlD : Least DD (x1, x2, x3) := fun y hy => h3 y ((hpo.left h1).mem_iff.1 hy)
    have hone : ∀ y ∈ DD, y.2.1 = x2 → y = (x1, x2, x3) := fun y hy e => HC7.out.one (hpo.perm.mem_iff.2 (List.mem_append_right _ hy)) (hpo.perm.mem_iff.2 (List.mem_append_right _ (hpd.mem_iff.2 (by simp)))) e
    obtain ⟨f0, f1, f2, f3⟩ := first_pop hpd hlD hone
    have hDl : DD.length ≤ 1000 := by have := hpo.len; omega
    have hpo2 : Pops u D (pre ++ [(x1, x2, x3)]) (takL DD (firstI DD)) := .more hpo f3 hlD h4
    have HFi := Lib.hid (fun (V : World) (ht : Turned [] W V) => rfirst_any (LAt.keep hr ht (by simp)))
    have HTk := Lib.hid (fun (V : World) (ht : Turned [] W V) => rtake_any (LAt.keep hr ht (by simp)) (firstI DD) f1 (by omega))
    rw [f2] at HTk
    obtain ⟨q0, hq0⟩ : ∃ q, firstI DD = q := ⟨_, rfl⟩
    rw [hq0] at HFi HTk hpo2 f0
    have e0 : decide (0 ≤ q0) = true := by simpa using f0
    simp only [e0] at HTk
    have HYc := Lib.hid (hr.isCells)
    have HBk : Hid (Bk ∉ Y') := Lib.hid (fun hx => by
      rcases LAt.kinds hr Bk hx with ⟨c, h⟩ | ⟨c, h⟩ <;> (rw [hk] at h; simp only [Option.some.injEq, Obj.cells.injEq] at h; exact absurd h.2.1 (by decide)))
    have HYA : Hid (∀ k ∈ Y', k < A ∨ A + 5 ≤ k) := Lib.hid (fun k hk => by
      rcases hY' k hk with h | h
      · have := HY.out k h; omega
      · omega)
    have HYn : Hid (∀ k, W.heap.size ≤ k → k ∉ Y') := Lib.hid (fun k hk hx => by have := hr.lt k hx; omega)
    have HY' := Lib.hid hY'
    have HDB := Lib.hid hdb
    have HT := Lib.hid hT
    have HK := Lib.hid hk
    have HPo := Lib.hid hpo2
    have HH4 := Lib.hid h4
    have d0 := one_cell' hdb.r
    clear hr hpo hY' hdb hT h1 h2 h3 h4 hpd hlD hone f0 f1 f2 f3 hpo2 e0 hq0 hp

    have hmix : Try.prog.follows .mixedOrders = true := by kernel_rfl
    have hne : A ≠ W.heap.size := by omega
    have hlt0 : A < W.heap.size := by omega
    have hdc : ∀ (V : World) (n : Nat) (a : Addr), (V.drewN n).cell? a = V.cell? a := fun _ _ _ => rfl
    have hds : ∀ (V : World) (n : Nat), (V.drewN n).heap.size = V.heap.size := fun _ _ => rfl
    gi_wp2_with fail
    refine wpRound_held (fun V => V.cell? ⟨A, 0, none⟩ = some (.pointer (some ⟨r, 0, none⟩))) (by kernel_rfl) ?_ hmix d0 (fun hS0 => ?_)
    · rintro ⟨_, _, h⟩; exact h
    refine wpAnyH_take (i := 0) (v := ?_) rfl (by kernel_rfl) (by kernel_rfl) (by kernel_rfl) (fun _ _ _ h => h) (Or.inl ⟨by rfl, ?hy⟩) (by assumption) ?_
    case hy =>
      intro w hSw
      (try dsimp only at hSw)
      go_simp
      try with_reducible rfl
    try simp only [Act.put, List.setIfInBounds_toArray]
    refine wpAnyH_take (i := 1) (v := ?_) rfl (by kernel_rfl) (by kernel_rfl) (by kernel_rfl) (fun _ _ _ h => h) (Or.inl ⟨by rfl, ?hy⟩) (by assumption) ?_
    case hy =>
      intro w hSw
      (try dsimp only at hSw)
      go_simp
      try with_reducible rfl
    try simp only [Act.put]
    refine wpAnyH_ready (rs := [2, 7]) (by kernel_rfl) (by simp) ?_
    refine AllReadyH.cons rfl (fun K hK => ?_) ?_
    · -- First comes up
      go_simp
      refine Calls.mono (HFi.out _ ?ht) ?_
      case ht => repeat (first | exact Turned.refl _ _ | refine Turned.drewN ?_ _ | refine Turned.drew ?_ | refine Turned.alloc ?_ _)
      rintro e V1 ⟨rfl, n1, rfl⟩
      go_wp2_with fail
      refine hK.out _ _ ?_ (fun hHeld => ?_)
      · exact d0
      clear hK K
      try simp only [Act.put, List.setIfInBounds_toArray, List.set_cons_zero, List.set_cons_succ]
      refine wpAnyH_ready (rs := [3, 7]) (by kernel_rfl) (by simp) ?_
      refine AllReadyH.cons rfl (fun K hK => ?_) ?_
      · -- then Take
        go_simp
        refine Calls.mono (HTk.out _ ?ht) ?_
        case ht => repeat (first | exact Turned.refl _ _ | refine Turned.drewN ?_ _ | refine Turned.drew ?_ | refine Turned.alloc ?_ _)
        rintro e V2 ⟨rfl, Y2, g1, g2, g3⟩
        have G1 := Lib.hid g1
        have hdb2 := HDB.out.keep ((Turned.up (by repeat (first | exact Turned.refl _ _ | refine Turned.drewN ?_ _ | refine Turned.drew ?_ | refine Turned.alloc ?_ _))).trans g2 (fun k hk => .inl hk) : Turned Y' W V2) HYA.out
        have HDB2 := Lib.hid hdb2
        have dd2 := one_cell' hdb2.r
        have G2 := Lib.hid (((Turned.up (by repeat (first | exact Turned.refl _ _ | refine Turned.drewN ?_ _ | refine Turned.drew ?_ | refine Turned.alloc ?_ _))).trans g2 (fun k hk => .inl hk)) : Turned Y' W V2)
        have G3 := Lib.hid g3
        clear g1 g2 g3 hdb2
        go_wp2_with fail
        refine hK.out _ _ ?_ (fun hHeld => ?_)
        · exact dd2
        clear hK K
        try simp only [Act.put, List.setIfInBounds_toArray, List.set_cons_zero, List.set_cons_succ]
        refine wpAnyH_take (i := 4) (v := ?_) rfl (by kernel_rfl) (by kernel_rfl) (by kernel_rfl) (fun _ _ _ h => h) (Or.inl ⟨by rfl, ?hy⟩) (by assumption) ?_
        case hy =>
          intro w hSw
          (try dsimp only at hSw)
          go_simp
          try with_reducible rfl
        try simp only [Act.put, List.setIfInBounds_toArray]
        refine wpAnyH_take (i := 5) (v := ?_) rfl (by kernel_rfl) (by kernel_rfl) (by kernel_rfl) (fun _ _ _ h => h) (Or.inl ⟨by rfl, ?hy⟩) (by assumption) ?_
        case hy =>
          intro w hSw
          (try dsimp only at hSw)
          go_simp
          try with_reducible rfl
        try simp only [Act.put]
        refine wpAnyH_take (i := 6) (v := ?_) rfl (by kernel_rfl) (by kernel_rfl) (by kernel_rfl) (fun _ _ _ h => h) (Or.inl ⟨by rfl, ?hy⟩) (by assumption) ?_
        case hy =>
          intro w hSw
          (try dsimp only at hSw)
          go_simp
          try with_reducible rfl
        try simp only [Act.put]
        refine wpAnyH_ready (rs := [7]) (by kernel_rfl) (by simp) ?_
        refine AllReadyH.cons rfl (fun K hK => ?_) AllReadyH.nil
        go_simp
        refine hK.out _ _ ?_ (fun hHeld => ?_)
        · exact (World.cell?_alloc_some _ _ _ (by rw [dd2]; rfl)).trans dd2
        clear hK K
        try simp only [Act.put, List.setIfInBounds_toArray, List.set_cons_zero, List.set_cons_succ]
        refine wpAnyH_ready (rs := [8]) (by kernel_rfl) (by simp) ?_
        refine AllReadyH.cons rfl (fun K hK => ?_) AllReadyH.nil
        go_simp
        refine hK.out _ _ ?_ (fun hHeld => ?_)
        · exact (World.cell?_alloc_some _ _ _ (by rw [dd2]; rfl)).trans dd2
        clear hK K
        try simp only [Act.put, List.setIfInBounds_toArray, List.set_cons_zero, List.set_cons_succ]
        refine wpAnyH_ready (rs := [9]) (by kernel_rfl) (by simp) ?_
        refine AllReadyH.cons rfl (fun K hK => ?_) AllReadyH.nil
        go_simp
        refine hK.out _ _ ?_ (fun hHeld => ?_)
        · exact (World.cell?_alloc_some _ _ _ (by rw [dd2]; rfl)).trans dd2
        clear hK K
        try simp only [Act.put, List.setIfInBounds_toArray, List.set_cons_zero, List.set_cons_succ]
        refine wpAnyH_done (by kernel_rfl) ?_ _
        obtain ⟨Bp, hBp⟩ : ∃ Bp, V2.heap.size = Bp := ⟨_, rfl⟩
        obtain ⟨V3, hV3⟩ : ∃ V3, V2.alloc (.cells #[.int .u64 x1, .int .i64 x2, .int .i64 x3] tI4) = V3 := ⟨_, rfl⟩
        have t23 : Turned [] V2 V3 := hV3 ▸ (Turned.refl [] V2).alloc _
        have ib : V3.heap[Bp]? = some (.cells #[.int .u64 x1, .int .i64 x2, .int .i64 x3] tI4 (0, 0)) := by rw [← hV3, ← hBp]; exact heap_alloc_new V2 _
        have T3 : Turned (W.heap.size :: Y') W V3 := (G2.out.mono (fun k hk => .inl (List.mem_cons_of_mem _ hk)) : Turned (W.heap.size :: Y') W V2).trans t23.up (Newer.refl _ _)
        have R3 : R4 V3 r Y2 m (takL DD q0) := LAt.keep G1.out t23 (by simp)
        rw [hV3, hBp]
        clear hV3 hBp t23
        have hBkY : Bk ∉ W.heap.size :: Y' := by
          intro hx
          rcases List.mem_cons.1 hx with h | h
          · have := lt_of_block HK.out; omega
          · exact HBk.out h
        have db3 := HDB.out.keep T3 (fun k hk => by
          rcases List.mem_cons.1 hk with h | h
          · omega
          · exact HYA.out k h)
        have DB3 := Lib.hid db3
        obtain ⟨k0, k1, _⟩ := two_cells (T3.same HK.out hBkY)
        obtain ⟨i0, i1, i2⟩ := item_cells ib
        have cu := one_cell' db3.u
        have cm := one_cell' db3.most
        have cn := one_cell' db3.n
        have cs := one_cell' db3.same
        have fn := frozen_of_row _ _ 0 _ _ db3.n
        have fs := frozen_of_row _ _ 0 _ _ db3.same
        have z1 : decide (x1 ≤ u) = true := by simpa using HH4.out
        have HT3 := Lib.hid T3
        have HR3 := Lib.hid R3
        have hsq : pre.length ≤ 5000 := by omega
        clear db3 ib T3 R3 hBkY
        gi_wp2
        all_goals
          have hend := due_end hA hsz HYc.out HY'.out ZX.out (by rw [← hA]; exact HY.out) HXY.out HT.out HT3.out HR3.out (fun k hk => by
            rcases G3.out k hk with h | h
            · exact .inl h
            · exact .inr (by first | exact h | (simp at h; omega))) DB3.out HPo.out
          rw [z7]
          first
            | exact ⟨hend.1, hend.2.1, rfl, hend.2.2, by simp; omega⟩
            | exact ⟨hend.1, hend.2.1, hend.2.2, by simp; omega⟩
      refine AllReadyH.cons rfl (fun K hK => ?_) AllReadyH.nil
      · -- then the place for what is taken
        go_simp
        refine hK.out _ _ ?_ (fun hHeld => ?_)
        · exact (World.cell?_alloc_some _ _ _ (by first | (rw [show (W.drew).cell? _ = _ from d0]; rfl) | exact (by rw [d0]; rfl : (W.cell? _).isSome = true))).trans d0
        clear hK K
        try simp only [Act.put, List.setIfInBounds_toArray, List.set_cons_zero, List.set_cons_succ]
        refine wpAnyH_ready (rs := [3]) (by kernel_rfl) (by simp) ?_
        refine AllReadyH.cons rfl (fun K hK => ?_) AllReadyH.nil
        go_simp
        refine Calls.mono (HTk.out _ ?ht) ?_
        case ht => repeat (first | exact Turned.refl _ _ | refine Turned.drewN ?_ _ | refine Turned.drew ?_ | refine Turned.alloc ?_ _)
        rintro e V2 ⟨rfl, Y2, g1, g2, g3⟩
        have G1 := Lib.hid g1
        have hdb2 := HDB.out.keep ((Turned.up (by repeat (first | exact Turned.refl _ _ | refine Turned.drewN ?_ _ | refine Turned.drew ?_ | refine Turned.alloc ?_ _))).trans g2 (fun k hk => .inl hk) : Turned Y' W V2) HYA.out
        have HDB2 := Lib.hid hdb2
        have dd2 := one_cell' hdb2.r
        have G2 := Lib.hid (((Turned.up (by repeat (first | exact Turned.refl _ _ | refine Turned.drewN ?_ _ | refine Turned.drew ?_ | refine Turned.alloc ?_ _))).trans g2 (fun k hk => .inl hk)) : Turned Y' W V2)
        have G3 := Lib.hid g3
        have hz := g2.same (k := W.heap.size) (o := .cells #[.int .u64 0, .int .i64 0, .int .i64 0] tI4) (by first | exact heap_alloc_new (W.drewN _) _ | exact heap_alloc_new W.drew _ | exact heap_alloc_new _ _) (HYn.out _ (Nat.le_refl _))
        have HZ := Lib.hid hz
        obtain ⟨s0, s1, s2⟩ := item_cells hz
        have sf := fun i => frozen_of_row _ W.heap.size i _ _ hz
        have sf0 := sf 0
        have sf1 := sf 1
        have sf2 := sf 2
        clear hz sf
        clear g1 g2 g3 hdb2
        go_wp2_with fail
        refine hK.out _ _ ?_ (fun hHeld => ?_)
        · exact dd2
        clear hK K
        try simp only [Act.put, List.setIfInBounds_toArray, List.set_cons_zero, List.set_cons_succ]
        refine wpAnyH_take (i := 4) (v := ?_) rfl (by kernel_rfl) (by kernel_rfl) (by kernel_rfl) (fun _ _ _ h => h) (Or.inl ⟨by rfl, ?hy⟩) (by assumption) ?_
        case hy =>
          intro w hSw
          (try dsimp only at hSw)
          go_simp
          try with_reducible rfl
        try simp only [Act.put, List.setIfInBounds_toArray]
        refine wpAnyH_take (i := 5) (v := ?_) rfl (by kernel_rfl) (by kernel_rfl) (by kernel_rfl) (fun _ _ _ h => h) (Or.inl ⟨by rfl, ?hy⟩) (by assumption) ?_
        case hy =>
          intro w hSw
          (try dsimp only at hSw)
          go_simp
          try with_reducible rfl
        try simp only [Act.put]
        refine wpAnyH_take (i := 6) (v := ?_) rfl (by kernel_rfl) (by kernel_rfl) (by kernel_rfl) (fun _ _ _ h => h) (Or.inl ⟨by rfl, ?hy⟩) (by assumption) ?_
        case hy =>
          intro w hSw
          (try dsimp only at hSw)
          go_simp
          try with_reducible rfl
        try simp only [Act.put]
        refine wpAnyH_ready (rs := [8]) (by kernel_rfl) (by simp) ?_
        refine AllReadyH.cons rfl (fun K hK => ?_) AllReadyH.nil
        go_simp
        refine hK.out _ _ ?_ (fun hHeld => ?_)
        · (rw [World.cell?_setCell_far _ _ _ _ (by simp; omega), World.cell?_setCell_far _ _ _ _ (by simp; omega), World.cell?_setCell_far _ _ _ _ (by simp; omega)]; exact dd2)
        clear hK K
        try simp only [Act.put, List.setIfInBounds_toArray, List.set_cons_zero, List.set_cons_succ]
        refine wpAnyH_ready (rs := [9]) (by kernel_rfl) (by simp) ?_
        refine AllReadyH.cons rfl (fun K hK => ?_) AllReadyH.nil
        go_simp
        refine hK.out _ _ ?_ (fun hHeld => ?_)
        · (rw [World.cell?_setCell_far _ _ _ _ (by simp; omega), World.cell?_setCell_far _ _ _ _ (by simp; omega), World.cell?_setCell_far _ _ _ _ (by simp; omega)]; exact dd2)
        clear hK K
        try simp only [Act.put, List.setIfInBounds_toArray, List.set_cons_zero, List.set_cons_succ]
        refine wpAnyH_done (by kernel_rfl) ?_ _
        obtain ⟨V3, hV3⟩ : ∃ V3, ((V2.setCell ⟨W.heap.size, 0, none⟩ (.int .u64 x1)).setCell ⟨W.heap.size, 1, none⟩ (.int .i64 x2)).setCell ⟨W.heap.size, 2, none⟩ (.int .i64 x3) = V3 := ⟨_, rfl⟩
        have t23 : Turned [W.heap.size] V2 V3 := hV3 ▸ (((Turned.refl [W.heap.size] V2).setCell (.inl (by simp)) _).setCell (.inl (by simp)) _).setCell (.inl (by simp)) _
        have ib : V3.heap[W.heap.size]? = some (.cells #[.int .u64 x1, .int .i64 x2, .int .i64 x3] tI4 (0, 0)) := by rw [← hV3]; exact item_stored HZ.out
        have T3 : Turned (W.heap.size :: Y') W V3 := (G2.out.mono (fun k hk => .inl (List.mem_cons_of_mem _ hk)) : Turned (W.heap.size :: Y') W V2).trans t23 (fun k hk => .inl (by simp at hk; simp [hk]))
        have R3 : R4 V3 r Y2 m (takL DD q0) := LAt.keep G1.out t23 (fun k hk hx => by simp at hx; subst hx; rcases G3.out _ hk with h | h; exact HYn.out _ (Nat.le_refl _) h; simp at h; omega)
        rw [hV3]
        clear hV3 t23
        have hBkY : Bk ∉ W.heap.size :: Y' := by
          intro hx
          rcases List.mem_cons.1 hx with h | h
          · have := lt_of_block HK.out; omega
          · exact HBk.out h
        have db3 := HDB.out.keep T3 (fun k hk => by
          rcases List.mem_cons.1 hk with h | h
          · omega
          · exact HYA.out k h)
        have DB3 := Lib.hid db3
        obtain ⟨k0, k1, _⟩ := two_cells (T3.same HK.out hBkY)
        obtain ⟨i0, i1, i2⟩ := item_cells ib
        have cu := one_cell' db3.u
        have cm := one_cell' db3.most
        have cn := one_cell' db3.n
        have cs := one_cell' db3.same
        have fn := frozen_of_row _ _ 0 _ _ db3.n
        have fs := frozen_of_row _ _ 0 _ _ db3.same
        have z1 : decide (x1 ≤ u) = true := by simpa using HH4.out
        have HT3 := Lib.hid T3
        have HR3 := Lib.hid R3
        have hsq : pre.length ≤ 5000 := by omega
        clear db3 ib T3 R3 hBkY
        gi_wp2
        all_goals
          have hend := due_end hA hsz HYc.out HY'.out ZX.out (by rw [← hA]; exact HY.out) HXY.out HT.out HT3.out HR3.out (fun k hk => by
            rcases G3.out k hk with h | h
            · exact .inl h
            · exact .inr (by first | exact h | (simp at h; omega))) DB3.out HPo.out
          rw [z7]
          first
            | exact ⟨hend.1, hend.2.1, rfl, hend.2.2, by simp; omega⟩
            | exact ⟨hend.1, hend.2.1, hend.2.2, by simp; omega⟩
    refine AllReadyH.cons rfl (fun K hK => ?_) AllReadyH.nil
    · -- the place for what is taken comes up
      go_simp
      refine hK.out _ _ ?_ (fun hHeld => ?_)
      · exact (World.cell?_alloc_some _ _ _ (by first | (rw [show (W.drew).cell? _ = _ from d0]; rfl) | exact (by rw [d0]; rfl : (W.cell? _).isSome = true))).trans d0
      clear hK K
      try simp only [Act.put, List.setIfInBounds_toArray, List.set_cons_zero, List.set_cons_succ]
      refine wpAnyH_ready (rs := [2]) (by kernel_rfl) (by simp) ?_
      refine AllReadyH.cons rfl (fun K hK => ?_) AllReadyH.nil
      go_simp
      refine Calls.mono (HFi.out _ ?ht) ?_
      case ht => repeat (first | exact Turned.refl _ _ | refine Turned.drewN ?_ _ | refine Turned.drew ?_ | refine Turned.alloc ?_ _)
      rintro e V1 ⟨rfl, n1, rfl⟩
      go_wp2_with fail
      refine hK.out _ _ ?_ (fun hHeld => ?_)
      · exact (World.cell?_alloc_some _ _ _ (by first | (rw [show (W.drew).cell? _ = _ from d0]; rfl) | exact (by rw [d0]; rfl : (W.cell? _).isSome = true))).trans d0
      clear hK K
      try simp only [Act.put, List.setIfInBounds_toArray, List.set_cons_zero, List.set_cons_succ]
      refine wpAnyH_ready (rs := [3]) (by kernel_rfl) (by simp) ?_
      refine AllReadyH.cons rfl (fun K hK => ?_) AllReadyH.nil
      go_simp
      refine Calls.mono (HTk.out _ ?ht) ?_
      case ht => repeat (first | exact Turned.refl _ _ | refine Turned.drewN ?_ _ | refine Turned.drew ?_ | refine Turned.alloc ?_ _)
      rintro e V2 ⟨rfl, Y2, g1, g2, g3⟩
      have G1 := Lib.hid g1
      have hdb2 := HDB.out.keep ((Turned.up (by repeat (first | exact Turned.refl _ _ | refine Turned.drewN ?_ _ | refine Turned.drew ?_ | refine Turned.alloc ?_ _))).trans g2 (fun k hk => .inl hk) : Turned Y' W V2) HYA.out
      have HDB2 := Lib.hid hdb2
      have dd2 := one_cell' hdb2.r
      have G2 := Lib.hid (((Turned.up (by repeat (first | exact Turned.refl _ _ | refine Turned.drewN ?_ _ | refine Turned.drew ?_ | refine Turned.alloc ?_ _))).trans g2 (fun k hk => .inl hk)) : Turned Y' W V2)
      have G3 := Lib.hid g3
      have hz := g2.same (k := W.heap.size) (o := .cells #[.int .u64 0, .int .i64 0, .int .i64 0] tI4) (by first | exact heap_alloc_new (W.drewN _) _ | exact heap_alloc_new W.drew _ | exact heap_alloc_new _ _) (HYn.out _ (Nat.le_refl _))
      have HZ := Lib.hid hz
      obtain ⟨s0, s1, s2⟩ := item_cells hz
      have sf := fun i => frozen_of_row _ W.heap.size i _ _ hz
      have sf0 := sf 0
      have sf1 := sf 1
      have sf2 := sf 2
      clear hz sf
      clear g1 g2 g3 hdb2
      go_wp2_with fail
      refine hK.out _ _ ?_ (fun hHeld => ?_)
      · exact dd2
      clear hK K
      try simp only [Act.put, List.setIfInBounds_toArray, List.set_cons_zero, List.set_cons_succ]
      refine wpAnyH_take (i := 4) (v := ?_) rfl (by kernel_rfl) (by kernel_rfl) (by kernel_rfl) (fun _ _ _ h => h) (Or.inl ⟨by rfl, ?hy⟩) (by assumption) ?_
      case hy =>
        intro w hSw
        (try dsimp only at hSw)
        go_simp
        try with_reducible rfl
      try simp only [Act.put, List.setIfInBounds_toArray]
      refine wpAnyH_take (i := 5) (v := ?_) rfl (by kernel_rfl) (by kernel_rfl) (by kernel_rfl) (fun _ _ _ h => h) (Or.inl ⟨by rfl, ?hy⟩) (by assumption) ?_
      case hy =>
        intro w hSw
        (try dsimp only at hSw)
        go_simp
        try with_reducible rfl
      try simp only [Act.put]
      refine wpAnyH_take (i := 6) (v := ?_) rfl (by kernel_rfl) (by kernel_rfl) (by kernel_rfl) (fun _ _ _ h => h) (Or.inl ⟨by rfl, ?hy⟩) (by assumption) ?_
      case hy =>
        intro w hSw
        (try dsimp only at hSw)
        go_simp
        try with_reducible rfl
      try simp only [Act.put]
      refine wpAnyH_ready (rs := [8]) (by kernel_rfl) (by simp) ?_
      refine AllReadyH.cons rfl (fun K hK => ?_) AllReadyH.nil
      go_simp
      refine hK.out _ _ ?_ (fun hHeld => ?_)
      · (rw [World.cell?_setCell_far _ _ _ _ (by simp; omega), World.cell?_setCell_far _ _ _ _ (by simp; omega), World.cell?_setCell_far _ _ _ _ (by simp; omega)]; exact dd2)
      clear hK K
      try simp only [Act.put, List.setIfInBounds_toArray, List.set_cons_zero, List.set_cons_succ]
      refine wpAnyH_ready (rs := [9]) (by kernel_rfl) (by simp) ?_
      refine AllReadyH.cons rfl (fun K hK => ?_) AllReadyH.nil
      go_simp
      refine hK.out _ _ ?_ (fun hHeld => ?_)
      · (rw [World.cell?_setCell_far _ _ _ _ (by simp; omega), World.cell?_setCell_far _ _ _ _ (by simp; omega), World.cell?_setCell_far _ _ _ _ (by simp; omega)]; exact dd2)
      clear hK K
      try simp only [Act.put, List.setIfInBounds_toArray, List.set_cons_zero, List.set_cons_succ]
      refine wpAnyH_done (by kernel_rfl) ?_ _
      obtain ⟨V3, hV3⟩ : ∃ V3, ((V2.setCell ⟨W.heap.size, 0, none⟩ (.int .u64 x1)).setCell ⟨W.heap.size, 1, none⟩ (.int .i64 x2)).setCell ⟨W.heap.size, 2, none⟩ (.int .i64 x3) = V3 := ⟨_, rfl⟩
      have t23 : Turned [W.heap.size] V2 V3 := hV3 ▸ (((Turned.refl [W.heap.size] V2).setCell (.inl (by simp)) _).setCell (.inl (by simp)) _).setCell (.inl (by simp)) _
      have ib : V3.heap[W.heap.size]? = some (.cells #[.int .u64 x1, .int .i64 x2, .int .i64 x3] tI4 (0, 0)) := by rw [← hV3]; exact item_stored HZ.out
      have T3 : Turned (W.heap.size :: Y') W V3 := (G2.out.mono (fun k hk => .inl (List.mem_cons_of_mem _ hk)) : Turned (W.heap.size :: Y') W V2).trans t23 (fun k hk => .inl (by simp at hk; simp [hk]))
      have R3 : R4 V3 r Y2 m (takL DD q0) := LAt.keep G1.out t23 (fun k hk hx => by simp at hx; subst hx; rcases G3.out _ hk with h | h; exact HYn.out _ (Nat.le_refl _) h; simp at h; omega)
      rw [hV3]
      clear hV3 t23
      have hBkY : Bk ∉ W.heap.size :: Y' := by
        intro hx
        rcases List.mem_cons.1 hx with h | h
        · have := lt_of_block HK.out; omega
        · exact HBk.out h
      have db3 := HDB.out.keep T3 (fun k hk => by
        rcases List.mem_cons.1 hk with h | h
        · omega
        · exact HYA.out k h)
      have DB3 := Lib.hid db3
      obtain ⟨k0, k1, _⟩ := two_cells (T3.same HK.out hBkY)
      obtain ⟨i0, i1, i2⟩ := item_cells ib
      have cu := one_cell' db3.u
      have cm := one_cell' db3.most
      have cn := one_cell' db3.n
      have cs := one_cell' db3.same
      have fn := frozen_of_row _ _ 0 _ _ db3.n
      have fs := frozen_of_row _ _ 0 _ _ db3.same
      have z1 : decide (x1 ≤ u) = true := by simpa using HH4.out
      have HT3 := Lib.hid T3
      have HR3 := Lib.hid R3
      have hsq : pre.length ≤ 5000 := by omega
      clear db3 ib T3 R3 hBkY
      gi_wp2
      all_goals
        have hend := due_end hA hsz HYc.out HY'.out ZX.out (by rw [← hA]; exact HY.out) HXY.out HT.out HT3.out HR3.out (fun k hk => by
          rcases G3.out k hk with h | h
          · exact .inl h
          · exact .inr (by first | exact h | (simp at h; omega))) DB3.out HPo.out
        rw [z7]
        first
          | exact ⟨hend.1, hend.2.1, rfl, hend.2.2, by simp; omega⟩
          | exact ⟨hend.1, hend.2.1, hend.2.2, by simp; omega⟩
  case done =>
    rintro Dk xs W hD ⟨D', hp, hh, ha⟩ ⟨hI, hle⟩ hK
    obtain ⟨DD, Y', hr, hpo, hY', hdb, hT, hsz⟩ := hI
    rw [hA] at hY' hdb hsz
    have hpl := hp.left hpo
    have hC := hh.perm hpl
    have hall : ∀ y ∈ DD, u < y.1 := fun y hy => ha y (hpl.mem_iff.2 hy)
    have hlen := hpo.len
    have hsub : ∀ x ∈ DD, x ∈ D := fun x hx => hpo.perm.mem_iff.2 (List.mem_append_right _ hx)
    have HFi := Lib.hid (rfirst_any hr)
    have cn := one_cell' hdb.n
    have cm := one_cell' hdb.most
    have cs := one_cell' hdb.same
    have cr := one_cell' hdb.r
    have cu := one_cell' hdb.u
    have z1 : decide (most < (xs.length : Int)) = false := by simp; omega
    have HEnd : Hid (∀ n : Nat, HpC ((W.drewN n).putObj Dk (.deferred none)) b X m DD ∧ R4 ((W.drewN n).putObj Dk (.deferred none)) r Y' m DD ∧ Turned (X ++ Y) w ((W.drewN n).putObj Dk (.deferred none)) ∧ Newer Y w.heap.size Y' ∧ (∀ x ∈ DD, x ∈ D) ∧ DD.length ≤ D.length ∧ ((DD.length : Int) + most < D.length ∨ ∀ y ∈ DD, u < y.1)) := Lib.hid (fun n => by
      have hk : (W.drewN n).heap[Dk]? = some (.deferred (some [])) := hK
      refine ⟨(HpC.at_ (w := W) hC (fun k hk => World.putObj_heap_other (by have := ZX.out k hk; omega))), LAt.mild (A := W.drewN n) hr (Mild.of_put (X := []) (B := A) hk rfl (by omega) _) (by simp), (hT.drewN n).put (by omega) _, fun k hk => ?_, hsub, by omega, .inr hall⟩
      rcases hY' k hk with h | h
      · exact .inl h
      · exact .inr (by omega))
    have HK := Lib.hid hK
    obtain ⟨a, cap, rc0, rc1, hrow⟩ := R4.rows hr
    by_cases hf : firstI DD < 0
    · have z2 : decide (firstI DD < 0) = true := by simpa using hf
      obtain ⟨q0, hq0⟩ : ∃ q, firstI DD = q := ⟨_, rfl⟩
      rw [hq0] at HFi z2
      clear hp hh ha hr hpo hdb hT hpl hC hall hlen hsub hrow hf hq0 hK hY'
      go_wp2_with fail
      with_reducible refine HFi.out.mono ?_
      rintro e V1 ⟨rfl, n1, rfl⟩
      go_wp2_with fail
      go_quiet (fail)
      go_wp2
      refine ⟨by simp, .inl ⟨_, _, rfl, run_takeDeferred HK.out, ?_⟩⟩
      exact ⟨_, results_tmp rfl _ _ _, rfl, DD, Y', by simpa using HEnd.out _⟩
    · obtain ⟨j, hj⟩ := Int.eq_ofNat_of_zero_le (show 0 ≤ firstI DD by omega)
      have hjl : j < DD.length := by
        have := (bestI_range DD DD.length).2.1
        unfold firstI at hj
        omega
      obtain ⟨g, rfl, q0, q1, q2⟩ := hrow j hjl
      have hju : u < (DD.getD j (0, 0, 0)).1 := by
        have hd : DD.getD j (0, 0, 0) = DD[j] := by simp [List.getD, hjl]
        rw [hd]
        exact hall _ (List.getElem_mem hjl)
      obtain ⟨v, hv⟩ : ∃ v, (DD.getD j (0, 0, 0)).1 = v := ⟨_, rfl⟩
      rw [hv] at q0 hju
      rw [hj] at HFi
      have z2 : decide ((j : Int) < 0) = false := by simp
      have z3 : decide (u < v) = true := by simpa using hju
      have j0 : (0 : Int) ≤ j := by omega
      have j1 : (j : Int) < DD.length := by omega
      clear hp hh ha hr hpo hdb hT hpl hC hall hlen hsub hrow hf hj hK hY' hv hju q1 q2
      go_wp2_with fail
      with_reducible refine HFi.out.mono ?_
      rintro e V1 ⟨rfl, n1, rfl⟩
      go_wp2_with fail
      go_quiet (fail)
      go_wp2
      refine ⟨by simp, .inl ⟨_, _, rfl, run_takeDeferred HK.out, ?_⟩⟩
      exact ⟨_, results_tmp rfl _ _ _, rfl, DD, Y', by simpa using HEnd.out _⟩
  case stop =>
    rintro Dk c xs W hD ⟨D', hp, hh⟩ ⟨rfl, hI, hle⟩ hK
    obtain ⟨DD, Y', hr, hpo, hY', hdb, hT, hsz⟩ := hI
    rw [hA] at hY' hdb hsz
    have hpl := hp.left hpo
    have hC := hh.perm hpl
    have hlen := hpo.len
    have hsub : ∀ x ∈ DD, x ∈ D := fun x hx => hpo.perm.mem_iff.2 (List.mem_append_right _ hx)
    have HFi := Lib.hid (rfirst_any hr)
    have cn := one_cell' hdb.n
    have cm := one_cell' hdb.most
    have cs := one_cell' hdb.same
    have cr := one_cell' hdb.r
    have z1 : decide (most < (xs.length : Int)) = true := by simp; omega
    have HEnd : Hid (∀ n : Nat, HpC ((W.drewN n).putObj Dk (.deferred none)) b X m DD ∧ R4 ((W.drewN n).putObj Dk (.deferred none)) r Y' m DD ∧ Turned (X ++ Y) w ((W.drewN n).putObj Dk (.deferred none)) ∧ Newer Y w.heap.size Y' ∧ (∀ x ∈ DD, x ∈ D) ∧ DD.length ≤ D.length ∧ ((DD.length : Int) + most < D.length ∨ ∀ y ∈ DD, u < y.1)) := Lib.hid (fun n => by
      have hk : (W.drewN n).heap[Dk]? = some (.deferred (some [])) := hK
      refine ⟨(HpC.at_ (w := W) hC (fun k hk => World.putObj_heap_other (by have := ZX.out k hk; omega))), LAt.mild (A := W.drewN n) hr (Mild.of_put (X := []) (B := A) hk rfl (by omega) _) (by simp), (hT.drewN n).put (by omega) _, fun k hk => ?_, hsub, by omega, .inl (by omega)⟩
      rcases hY' k hk with h | h
      · exact .inl h
      · exact .inr (by omega))
    have HK := Lib.hid hK
    obtain ⟨q0, hq0⟩ : ∃ q, firstI DD = q := ⟨_, rfl⟩
    rw [hq0] at HFi
    clear hp hh hr hpo hdb hT hpl hC hlen hsub hq0 hK hY' hle
    refine wpIn_wide.2 ?_
    go_wp2_with fail
    with_reducible refine HFi.out.mono ?_
    rintro e V1 ⟨rfl, n1, rfl⟩
    go_wp2_with fail
    go_quiet (fail)
    go_wp2
    refine ⟨by simp, .inl ⟨_, _, rfl, run_takeDeferred HK.out, ?_⟩⟩
    exact ⟨_, results_tmp rfl _ _ _, rfl, DD, Y', by simpa using HEnd.out _⟩
end Go.Proofs.Ythhdidcmiiglbaa
