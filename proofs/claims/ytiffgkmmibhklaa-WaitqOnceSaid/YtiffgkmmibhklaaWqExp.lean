/-
  expire: those whose time is over, held against the document's.
-/
import Derived.Test.YtiffgkmmibhklaaWqSame
import Derived.Test.YtiffgkmmibhklaaGA
namespace Go.Proofs.Ytiffgkmmibhklaa
open Go.RowKit Go.Maps Go.Shelf
attribute [local go_sem] Oper.semAt_some

theorem Turned.mild3 {Z T : List Nat} {N : Nat} {w A B : World} (h : Turned T w A) (m : Mild Z N A B) (hN : w.heap.size ≤ N) (hZ : ∀ k ∈ Z, k ∈ T ∨ w.heap.size ≤ k) : Turned T w B :=
  ⟨m.os.trans h.os, m.tape.trans h.tape, m.output.trans h.output, Nat.le_trans h.size m.size, fun k hk hy => by
    have h1 := h.block k hk hy
    have h2 : A.heap[k]? = some (A.heap[k]'(by have := h.size; omega)) := Array.getElem?_eq_getElem _
    rw [m.same k _ h2 (fun hx => by rcases hZ k hx with h | h; exact hy h; omega) (.inl (by omega)), ← h2, h1]⟩

/-- The boxes of expire. -/
structure ExB (w W : World) (d : Nat) (u most : Int) (k : Nat) : Prop where
  p : W.heap[w.heap.size]? = some (.cells #[.pointer (some ⟨d, 0, none⟩)] 27 (0, 0))
  u : W.heap[w.heap.size + 1]? = some (.cells #[.int .u64 u] 30 (0, 0))
  m : W.heap[w.heap.size + 2]? = some (.cells #[.int .i64 most] 3 (0, 0))
  n : W.heap[w.heap.size + 3]? = some (.cells #[.int .i64 (k : Nat)] 3 (0, 0))
  ok : W.heap[w.heap.size + 4]? = some (.cells #[.bool true] 4 (0, 0))
theorem ExB.mild {w W W' : World} {d k N : Nat} {u most : Int} {Z : List Nat} (h : ExB w W d u most k) (m : Mild Z N W W') (hZ : ∀ k ∈ Z, k < w.heap.size ∨ w.heap.size + 5 ≤ k) : ExB w W' d u most k := by
  have o : ∀ i, i < 5 → w.heap.size + i ∉ Z := fun i hi hx => by have := hZ _ hx; omega
  exact ⟨m.cells h.p (o 0 (by omega)), m.cells h.u (o 1 (by omega)), m.cells h.m (o 2 (by omega)), m.cells h.n (o 3 (by omega)), m.cells h.ok (o 4 (by omega))⟩
theorem ExB.turned {w W W' : World} {d k : Nat} {u most : Int} {Z : List Nat} (h : ExB w W d u most k) (t : Turned Z W W') (hZ : ∀ k ∈ Z, k < w.heap.size ∨ w.heap.size + 5 ≤ k) : ExB w W' d u most k := by
  have o : ∀ i, i < 5 → w.heap.size + i ∉ Z := fun i hi hx => by have := hZ _ hx; omega
  exact ⟨t.same h.p (o 0 (by omega)), t.same h.u (o 1 (by omega)), t.same h.m (o 2 (by omega)), t.same h.n (o 3 (by omega)), t.same h.ok (o 4 (by omega))⟩
theorem ExB.setOk {w W : World} {d k : Nat} {u most : Int} (h : ExB w W d u most k) : ExB w (W.setCell ⟨w.heap.size + 4, 0, none⟩ (.bool true)) d u most k := by
  have o := fun j (hj : j ≠ w.heap.size + 4) => Below.heap_setCell W ⟨w.heap.size + 4, 0, none⟩ (.bool true) j hj
  refine ⟨(o _ (by omega)).trans h.p, (o _ (by omega)).trans h.u, (o _ (by omega)).trans h.m, (o _ (by omega)).trans h.n, ?_⟩
  rw [heap_setCell_same _ _ _ _ _ _ h.ok]
  rfl
theorem ExB.setN {w W : World} {d k : Nat} {u most : Int} (h : ExB w W d u most k) (k' : Nat) : ExB w (W.setCell ⟨w.heap.size + 3, 0, none⟩ (.int .i64 (k' : Nat))) d u most k' := by
  have o := fun j (hj : j ≠ w.heap.size + 3) => Below.heap_setCell W ⟨w.heap.size + 3, 0, none⟩ (.int .i64 (k' : Nat)) j hj
  refine ⟨(o _ (by omega)).trans h.p, (o _ (by omega)).trans h.u, (o _ (by omega)).trans h.m, ?_, (o _ (by omega)).trans h.ok⟩
  rw [heap_setCell_same _ _ _ _ _ _ h.n]
  rfl

/-- What stands in a round of expire: the boxes; the document's table behind so many. -/
structure ExI (w W : World) (N d : Nat) (T : List Nat) (m e u most : Int) (L : List Wt) (k : Nat) (Z : List Nat) : Prop where
  b : ExB w W d u most k
  r : ∃ Y, R8 W d Y m e (dueR u k L) ∧ (∀ j ∈ Y, j ∉ Z) ∧ ∀ j ∈ Y, (j ∈ T ∨ w.heap.size + 5 ≤ j) ∧ (j < w.heap.size ∨ w.heap.size + 5 ≤ j)
  t : Turned T w W
  s : N ≤ W.heap.size
  z : ∀ j ∈ Z, j < W.heap.size ∧ (j ∈ T ∨ w.heap.size ≤ j) ∧ (j < w.heap.size ∨ w.heap.size + 5 ≤ j)
theorem ExI.mild {w A B : World} {N d M : Nat} {T Z Z' : List Nat} {m e u most : Int} {L : List Wt} {k : Nat} (h : ExI w A N d T m e u most L k Z) (mm : Mild Z M A B) (hM : w.heap.size ≤ M) (hn : Newer Z A.heap.size Z') (hB : ∀ j ∈ Z', j < B.heap.size) (hA : w.heap.size + 5 ≤ A.heap.size) :
    ExI w B N d T m e u most L k Z' := by
  obtain ⟨Y, r1, r2, r3⟩ := h.r
  refine ⟨h.b.mild mm (fun j hj => (h.z j hj).2.2), ⟨Y, LAt.mild r1 mm r2, fun j hj hz => ?_, r3⟩, h.t.mild3 mm hM (fun j hj => (h.z j hj).2.1), Nat.le_trans h.s mm.size, fun j hj => ⟨hB j hj, ?_⟩⟩
  · rcases hn j hz with h1 | h1
    · exact r2 j hj h1
    · have := LAt.lt r1 j hj; omega
  · rcases hn j hj with h1 | h1
    · exact (h.z j h1).2
    · exact ⟨.inr (by omega), .inr (by omega)⟩

/-- A round of expire, told of its worlds. -/
theorem ExI.step {w W V V3 : World} {N d j k : Nat} {T Z Y Y3 : List Nat} {m e u most : Int} {L : List Wt} (h : ExI w W N d T m e u most L k Z) (hN : w.heap.size + 5 ≤ N) (r1 : R8 W d Y m e (dueR u k L)) (r2 : ∀ j ∈ Y, j ∉ Z) (r3 : ∀ j ∈ Y, (j ∈ T ∨ w.heap.size + 5 ≤ j) ∧ (j < w.heap.size ∨ w.heap.size + 5 ≤ j))
    (tV : Turned [] W V) (q1 : R8 V3 d Y3 m e ((dueR u k L).eraseIdx j)) (q2 : Turned Y (V.drew.setCell ⟨w.heap.size + 4, 0, none⟩ (.bool true)) V3) (q3 : Newer Y (V.drew.setCell ⟨w.heap.size + 4, 0, none⟩ (.bool true)).heap.size Y3) (hk : dueR u (k + 1) L = (dueR u k L).eraseIdx j) :
    ExI w (V3.setCell ⟨w.heap.size + 3, 0, none⟩ (.int .i64 ((k + 1 : Nat) : Int))) N d T m e u most L (k + 1) Z ∧ KeepsFrom N W (V3.setCell ⟨w.heap.size + 3, 0, none⟩ (.int .i64 ((k + 1 : Nat) : Int))) ∧ SameAt Z W (V3.setCell ⟨w.heap.size + 3, 0, none⟩ (.int .i64 ((k + 1 : Nat) : Int))) ∧ ExB w V3 d u most k := by
  obtain ⟨V1, hV1⟩ : ∃ V1, V.drew.setCell ⟨w.heap.size + 4, 0, none⟩ (.bool true) = V1 := ⟨_, rfl⟩
  rw [hV1] at q2 q3
  have hs := h.s
  have hWV := tV.size
  have s1 : V1.heap.size = V.heap.size := by rw [← hV1]; simp [World.setCell]
  have b1 : ExB w V1 d u most k := by
    rw [← hV1]
    exact ((h.b.turned tV (by simp)).turned (Turned.refl [] V).drew (by simp)).setOk
  have b3 : ExB w V3 d u most k := b1.turned q2 (fun k hk => (r3 k hk).2)
  have tV1 : Turned [w.heap.size + 4] W V1 := by
    rw [← hV1]
    exact ((tV.mono (fun k hk => by simp at hk)).drew).setCell (.inl (by simp)) _
  have y3 : ∀ i ∈ Y3, i ∈ Y ∨ W.heap.size ≤ i := fun i hi => by
    rcases q3 i hi with h1 | h1
    · exact .inl h1
    · exact .inr (by omega)
  have hYl := LAt.lt r1
  refine ⟨⟨b3.setN (k + 1), ⟨Y3, ?_, fun i hi hz => ?_, fun i hi => ?_⟩, ?_, ?_, fun i hi => ⟨?_, (h.z i hi).2⟩⟩, ?_, fun i hi => ?_, b3⟩
  · rw [hk]
    refine LAt.keep q1 (Y := [w.heap.size + 3]) ((Turned.refl _ _).setCell (.inl (by simp)) _) (fun i hi hx => ?_)
    simp at hx
    subst hx
    rcases y3 _ hi with h1 | h1
    · have := (r3 _ h1).2; omega
    · omega
  · rcases y3 i hi with h1 | h1
    · exact r2 i h1 hz
    · have := (h.z i hz).1; omega
  · rcases y3 i hi with h1 | h1
    · exact r3 i h1
    · exact ⟨.inr (by omega), .inr (by omega)⟩
  · refine Turned.setCell ?_ (.inr (by simp)) _
    refine Turned.trans (h.t.trans tV1 (fun i hi => .inr (by simp at hi; omega))) q2 (fun i hi => ?_)
    rcases (r3 i hi).1 with h1 | h1
    · exact .inl h1
    · exact .inr (by omega)
  · have := q2.size
    simp [World.setCell]
    omega
  · have := q2.size
    have := (h.z i hi).1
    simp [World.setCell]
    omega
  · have k1 : KeepsOthers W V := keepsOthers_turned tV (by simp)
    have k2 : KeepsOthers V V1 := by
      rw [← hV1]
      exact (KeepsOthers.drew V).trans (KeepsOthers.setCell _ _ _)
    have k3 : KeepsOthers V1 V3 := keepsOthers_turned q2 (fun i hi => LAt.isCells (LAt.keep r1 tV1 (fun i hi hx => by simp at hx; have := (r3 i hi).2; omega)) i hi)
    exact (((k1.trans k2).trans k3).trans (KeepsOthers.setCell _ _ _)).from _
  · have hz := h.z i hi
    refine (Below.heap_setCell _ _ _ _ (by simp; omega)).trans ?_
    rw [q2.block i (by omega) (fun hx => r2 i hx hi)]
    exact tV1.block i hz.1 (by simp; omega)

/-- What is left behind the loop. -/
theorem ExI.fin (S : WqSaid) {w W V : World} {N b d k D : Nat} {X Y X' Z : List Nat} {m e u most : Int} {c : Nat} {L : List Wt} (h : ExI w W N d (X ++ Y) m e u most L k Z) (hA : S.At W b X' m e c (dueR u k L)) (hX' : ∀ j ∈ X', j ∈ Z) (hZD : ∀ k ∈ Z, k ≠ D)
    (tV : Turned [] W V) (hD : V.heap[D]? = some (.deferred (some []))) (hwD : w.heap.size ≤ D) (o : Obj) :
    ∃ X' Y' L', S.At (V.putObj D o) b X' m e c L' ∧ R8 (V.putObj D o) d Y' m e L' ∧ (∀ j ∈ Y', j ∉ X') ∧ L'.length ≤ L.length ∧ Turned (X ++ Y) w (V.putObj D o) ∧ Newer (X ++ Y) w.heap.size (X' ++ Y') := by
  obtain ⟨Y1, r1, r2, r3⟩ := h.r
  have tp : Turned [D] V (V.putObj D o) := Turned.grown (Turned.refl [D] V) (grownBy_putObj' V D o) (fun k hk => .inl (by cases hk; simp))
  have r1V : R8 V d Y1 m e (dueR u k L) := LAt.keep r1 tV (by simp)
  refine ⟨X', Y1, _, S.keep (S.keep hA tV (by simp)) tp (fun i hi hx => ?_), LAt.keep r1V tp (fun i hi hx => ?_), fun j hj hx => r2 j hj (hX' j hx), dueR_len u k L, ?_, fun j hj => ?_⟩
  · simp at hx
    exact hZD i (hX' i hi) hx
  · simp at hx
    subst hx
    obtain ⟨cs, t, hc⟩ := LAt.isCells r1V _ hi
    rw [hD] at hc
    cases hc
  · exact (h.t.trans tV (fun k hk => by simp at hk)).put hwD o
  · rcases List.mem_append.1 hj with h1 | h1
    · exact (h.z j (hX' j h1)).2.1
    · rcases (r3 j h1).1 with h2 | h2
      · exact .inl h2
      · exact .inr (by omega)

set_option maxRecDepth 100000 in
set_option maxHeartbeats 6400000 in
theorem expire_any (S : WqSaid) {w : World} {b d : Nat} {X Y : List Nat} {m e : Int} {c : Nat} {L : List Wt} (h : S.At w b X m e c L) (hr : R8 w d Y m e L) (hXY : ∀ j ∈ Y, j ∉ X) (u most : Int) (hu : 0 ≤ u ∧ u < 18446744073709551616) (hmost : 0 ≤ most ∧ most ≤ 100) (hL : L.length ≤ 100) (hc : c ≤ 90000) :
    Calls Try.prog 18 #[.pointer (some ⟨b, 0, none⟩), .pointer (some ⟨d, 0, none⟩), .int .u64 u, .int .i64 most] w fun r w' => r = .returned (.bool true) ∧
      ∃ X' Y' L', S.At w' b X' m e (c + 100) L' ∧ R8 w' d Y' m e L' ∧ (∀ j ∈ Y', j ∉ X') ∧ L'.length ≤ L.length ∧ Turned (X ++ Y) w w' ∧ Newer (X ++ Y) w.heap.size (X' ++ Y') := by
  refine callsIn_wide.1 (?_ : CallsIn Fence.wide 20 _ _ _ _ _)
  refine callsIn_of_wp_marks Try.func18 rfl trivial ?_ rfl
  simp only [Try.ntmps18, List.size_toArray, List.length_cons, List.length_nil, Nat.reduceAdd, Nat.reduceSub, Array.replicate_succ, Array.replicate_zero, List.push_toArray, List.append_toArray, List.nil_append, List.cons_append]
  refine wpIn_wide.2 ?_
  obtain ⟨W1, hW1⟩ : ∃ W1, ((((w.alloc (.cells #[.pointer (some ⟨d, 0, none⟩)] 27)).alloc (.cells #[.int .u64 u] 30)).alloc (.cells #[.int .i64 most] 3)).alloc (.cells #[.int .i64 0] 3)).alloc (.cells #[.bool true] 4) = W1 := ⟨_, rfl⟩
  have t1 : Turned [] w W1 := by rw [← hW1]; exact (((((Turned.refl [] w).alloc _).alloc _).alloc _).alloc _).alloc _
  have z1 : W1.heap.size = w.heap.size + 5 := by rw [← hW1]; simp
  have B1 : ExB w W1 d u most 0 := by
    have g := fun (V : World) (o : Obj) => heap_alloc_new V o
    have up := fun (V : World) (o : Obj) (k : Nat) (hk : k < V.heap.size) => Below.heap_alloc V o k hk
    rw [← hW1]
    refine ⟨?_, ?_, ?_, ?_, ?_⟩
    · exact (up _ _ _ (by simp <;> omega)).trans ((up _ _ _ (by simp <;> omega)).trans ((up _ _ _ (by simp <;> omega)).trans ((up _ _ _ (by simp)).trans (g w _))))
    · refine (up _ _ _ (by simp <;> omega)).trans ((up _ _ _ (by simp <;> omega)).trans ((up _ _ _ (by simp)).trans ?_))
      have := g (w.alloc (.cells #[.pointer (some ⟨d, 0, none⟩)] 27)) (.cells #[.int .u64 u] 30)
      simpa using this
    · refine (up _ _ _ (by simp <;> omega)).trans ((up _ _ _ (by simp)).trans ?_)
      have := g ((w.alloc (.cells #[.pointer (some ⟨d, 0, none⟩)] 27)).alloc (.cells #[.int .u64 u] 30)) (.cells #[.int .i64 most] 3)
      simpa using this
    · refine (up _ _ _ (by simp)).trans ?_
      have := g (((w.alloc (.cells #[.pointer (some ⟨d, 0, none⟩)] 27)).alloc (.cells #[.int .u64 u] 30)).alloc (.cells #[.int .i64 most] 3)) (.cells #[.int .i64 0] 3)
      simpa using this
    · have := g ((((w.alloc (.cells #[.pointer (some ⟨d, 0, none⟩)] 27)).alloc (.cells #[.int .u64 u] 30)).alloc (.cells #[.int .i64 most] 3)).alloc (.cells #[.int .i64 0] 3)) (.cells #[.bool true] 4)
      simpa using this
  have HE := Lib.hid (S.expire u (S.keep h t1 (by simp)) hu.1 hu.2 hL hc)
  have HX := Lib.hid (S.lt h)
  have HY := Lib.hid hr.lt
  have HR := Lib.hid hr
  have T1 := Lib.hid t1
  have HB1 := Lib.hid B1
  have HW1 := Lib.hid hW1
  have HXY := Lib.hid hXY
  clear t1 B1 hW1 h hr hXY
  go_wp2_with fail
  rw [HW1.out]
  refine HE.out.mono ?_
  rintro e' W2 ⟨f, lb, rfl, t2, hent, Z, hZ, hseq⟩
  have z2 := t2.size
  have I0 : ExI w W2 W2.heap.size d (X ++ Y) m e u most L 0 Z := by
    refine ⟨HB1.out.turned t2 (by simp), ⟨Y, LAt.keep (LAt.keep HR.out T1.out (by simp)) t2 (by simp), fun j hj hz => ?_, fun j hj => ⟨.inl (List.mem_append_right _ hj), .inl (HY.out j hj)⟩⟩, (T1.out.trans t2 (Newer.refl _ _)).mono (fun k hk => by simp at hk), Nat.le_refl _, fun j hj => ?_⟩
    · have hjl := HY.out j hj
      rcases (hZ j hz).2 with h2 | h2
      · exact HXY.out j hj h2
      · omega
    · obtain ⟨h1, h2 | h2⟩ := hZ j hj
      · exact ⟨h1, .inl (List.mem_append_left _ h2), .inl (HX.out j h2)⟩
      · exact ⟨h1, .inr (by omega), .inr (by omega)⟩
  have HI0 := Lib.hid I0
  have HENT := Lib.hid hent
  have HZ := Lib.hid (fun k (hk : k ∈ Z) => (hZ k hk).1)
  have HSEQ := Lib.hid (hseq 19 (by omega))
  have hw5 : w.heap.size + 5 ≤ W2.heap.size := by omega
  clear t2 hent hZ hseq I0 HE HW1 HB1 T1
  go_wp2_with fail
  refine (wpIn_wide (n := 20)).1 ?_
  refine range_turnsZ_boxed rfl (by omega) (gf := f) (lb := lb) rfl trivial HENT.out (X := Z) HZ.out HSEQ.out (fun _ => rfl)
    (by rintro xs Z' A B ⟨h1, X', h2, h3⟩ hs; exact ⟨h1, X', S.same h2 (fun k hk => hs k (h3 k hk)), h3⟩) (by rintro xs Z' A B ⟨h1, X', h2, h3⟩ hs; exact ⟨h1, X', S.same h2 (fun k hk => hs k (h3 k hk)), h3⟩)
    (fun pre Z' W => ExI w W W2.heap.size d (X ++ Y) m e u most L pre.length Z' ∧ (pre.length : Int) ≤ most)
    (fun c' pre Z' W => c' = .exit 0 ∧ ExI w W W2.heap.size d (X ++ Y) m e u most L pre.length Z' ∧ (pre.length : Int) = most + 1)
    (fun xs Z1 Z2 A B h mm hn hb => ⟨h.1.mild mm (by omega) hn hb (Nat.le_trans hw5 h.1.s), h.2⟩) ?hIx ⟨HI0.out, by simpa using hmost.1⟩
    (fun xs Z' W h => ⟨h.1.s, fun k hk => (h.1.z k hk).1⟩) tW (fun x => #[.int .i64 x.1, .int .i64 x.2.1, .int .u64 x.2.2]) ?a1 ?assign ?body ?done ?stop
  case hIx =>
    rintro c' xs Z1 Z2 A B ⟨rfl, h, hm⟩ mm hn hb
    exact ⟨rfl, h.mild mm (by omega) hn hb (Nat.le_trans hw5 h.s), hm⟩
  case assign =>
    intro l x Bk W K hBk hK
    gi_wp2
    exact hK
  case body =>
    rintro l pre x Z1 Bk W hbk hBk ⟨hI, hpm⟩ hsp
    obtain ⟨j, hj1, hj2, hj3, hj4⟩ := due_next hsp
    obtain ⟨Y1, r1, r2, r3⟩ := hI.r
    obtain ⟨k, hk⟩ : ∃ k, pre.length = k := ⟨_, rfl⟩
    rw [hk] at hI hj1 hj2 hj3 hj4 r1 hpm
    have hMl : (dueR u k L).length ≤ 100 := Nat.le_trans (dueR_len u k L) hL
    have HDue := Lib.hid (rdue_any r1 u)
    rw [show dueI (dueR u k L) u (dueR u k L).length = (j : Int) from hj1] at HDue
    obtain ⟨a', cap', hfix⟩ := r1.fix
    have HFx := Lib.hid hfix
    have HTk := Lib.hid (fun (V : World) (r : R8 V d Y1 m e (dueR u k L)) => rtake8_at r j hj3 (by omega))
    obtain ⟨x1, x2, x3⟩ := x
    simp only at hbk
    obtain ⟨k0, k1, k2, _⟩ := cellsT hbk
    have HJ2 := Lib.hid hj2
    have HJ4 := Lib.hid hj4
    have HI := Lib.hid hI
    have R1 := Lib.hid r1
    have R2 := Lib.hid r2
    have R3 := Lib.hid r3
    have HLen := Lib.hid (show (pre ++ [(x1, x2, x3)]).length = k + 1 by simp [hk])
    have c0 := cell1 hI.b.p
    have c1 := cell1 hI.b.u
    have hbk' := Lib.hid hbk
    have j0 : (0 : Int) ≤ j := by omega
    have j1 : (j : Int) < (dueR u k L).length := by omega
    have hjN : j < (dueR u k L).length := hj3
    have d0 : decide ((0 : Int) ≤ (j : Int)) = true := by simp
    obtain ⟨M, hM⟩ : ∃ M, (dueR u k L).length = M := ⟨_, rfl⟩
    rw [hM] at j1 hjN HFx
    have HM := Lib.hid hM
    clear hI r1 r2 r3 hfix hj1 hj2 hj4 hsp hbk hk hM hj3
    gi_wp2_with fail
    refine ⟨trivial, ?_⟩
    refine (CallsIn.inRound l (callsIn_wide.2 HDue.out)).mono ?_
    rintro e' V ⟨rfl, tV⟩
    have TV := Lib.hid tV
    obtain ⟨f1, f2, fr⟩ := HFx.out V tV
    obtain ⟨g, rfl, s0, s1, s2⟩ := fr j hjN
    rw [HJ2.out] at s0 s1 s2
    simp only at s0 s1 s2
    obtain ⟨v0, v1, v2, _⟩ := cellsT (tV.same hbk'.out (by simp))
    have BV := HI.out.b.turned tV (by simp)
    have o0 := cell1 BV.p
    have o1 := cell1 BV.ok
    have of := frozen_of_row V (w.heap.size + 4) 0 _ _ BV.ok
    have hRS : R8 (V.drew.setCell ⟨w.heap.size + 4, 0, none⟩ (.bool true)) d Y1 m e (dueR u k L) :=
      LAt.keep (LAt.keep R1.out tV (by simp)) (Y := [w.heap.size + 4]) ((Turned.refl [w.heap.size + 4] V).drew.setCell (.inl (by simp)) _) (fun i hi hx => by simp at hx; have := (R3.out i hi).2; omega)
    have HTk1 := Lib.hid (HTk.out _ hRS)
    rw [HJ2.out] at HTk1
    simp only [aggW] at HTk1
    clear tV fr c0 c1 k0 k1 k2 BV hRS
    gi_wp2
    refine wpRound_tail 16 (by kernel_rfl) ?_ (by kernel_rfl) (by kernel_rfl) ?_
    · rintro ⟨_, _, h⟩; exact h
    simp only [List.take_succ_cons, List.take_zero, List.drop_succ_cons, List.drop_zero]
    repeat (go_big_quiet_step (fail))
    refine wpQuiet_nil ?_
    go_wp2_with fail
    gi_wp2_with fail
    refine ⟨trivial, ?_⟩
    refine (CallsIn.inRound l (callsIn_wide.2 HTk1.out)).mono ?_
    rintro e' V3 ⟨rfl, Y3, q1, q2, q3⟩
    obtain ⟨E1, E2, E3, E4⟩ := ExI.step HI.out hw5 R1.out R2.out R3.out TV.out q1 q2 q3 HJ4.out
    have o3 := cell1 E4.n
    have o4 := cell1 E4.m
    have of3 := frozen_of_row V3 (w.heap.size + 3) 0 _ _ E4.n
    have w1 : IntKind.i64.wrap ((k : Int) + 1) = (k : Int) + 1 := by rw [IntKind.wrap_i64]; omega
    rw [show (((k + 1 : Nat) : Int)) = (k : Int) + 1 by omega] at E1 E2 E3
    have F1 := Lib.hid E1
    have F2 := Lib.hid E2
    have F3 := Lib.hid E3
    clear q1 q2 q3 E1 E2 E3 E4 o0 o1 of f1 f2 s0 s1 s2 v0 v1 v2
    by_cases hkm : most < (k : Int) + 1
    · have z1 : decide (most < (k : Int) + 1) = true := by simpa using hkm
      gi_wp2
      exact ⟨F2.out, F3.out, rfl, by rw [HLen.out]; exact F1.out, by rw [HLen.out]; omega⟩
    · have z1 : decide (most < (k : Int) + 1) = false := by simpa using hkm
      gi_wp2
      exact ⟨F2.out, F3.out, by rw [HLen.out]; exact F1.out, by rw [HLen.out]; omega⟩
  case done =>
    rintro D xs Z1 W hD hZD ⟨rfl, X', hA, hX'⟩ ⟨hI, hpm⟩ hK
    have hend : dueP (dueR u (dueA u L).length L) u < 0 := due_end u L.length L (Nat.le_refl _)
    obtain ⟨k, hk⟩ : ∃ k, (dueA u L).length = k := ⟨_, rfl⟩
    rw [hk] at hA hI hend hpm
    obtain ⟨Y1, r1, _, _⟩ := hI.r
    have HDue := Lib.hid (rdue_any r1 u)
    obtain ⟨q, hq⟩ : ∃ q, dueI (dueR u k L) u (dueR u k L).length = q := ⟨_, rfl⟩
    rw [hq] at HDue
    have hq0 : q < 0 := by rw [← hq]; exact hend
    have z0 : decide (q < 0) = true := by simpa using hq0
    have z1 : decide (most < (k : Int)) = false := by simp; omega
    have o0 := cell1 hI.b.p
    have o1 := cell1 hI.b.u
    have o2 := cell1 hI.b.m
    have o3 := cell1 hI.b.n
    have o4 := cell1 hI.b.ok
    have HFin := Lib.hid (fun (V : World) (t : Turned [] W V) (o : Obj) => ExI.fin S hI hA hX' hZD t (t.same hK (by simp)) (by omega) o)
    have HKD := Lib.hid hK
    clear r1 hI hA hX' hZD hK hend hq hk
    go_wp2_with fail
    with_reducible refine HDue.out.mono ?_
    rintro e' V ⟨rfl, tV⟩
    have hDV := tV.same HKD.out (by simp)
    have HFV := Lib.hid (HFin.out V tV)
    have HDV := Lib.hid hDV
    clear tV hDV o0 o1 o2 o3 o4
    go_wp2
    refine ⟨by simp, .inl ⟨_, _, rfl, run_takeDeferred HDV.out, ?_⟩⟩
    exact ⟨_, results_tmp rfl _ _ _, rfl, HFV.out _⟩
  case stop =>
    rintro D c' xs Z1 W hD hZD ⟨hsx, X', hA, hX'⟩ ⟨rfl, hI, hpm⟩ hK
    obtain ⟨k, hk⟩ : ∃ k, xs.length = k := ⟨_, rfl⟩
    rw [hk] at hA hI hpm
    have z1 : decide (most < (k : Int)) = true := by simp; omega
    have o0 := cell1 hI.b.p
    have o1 := cell1 hI.b.u
    have o2 := cell1 hI.b.m
    have o3 := cell1 hI.b.n
    have o4 := cell1 hI.b.ok
    have HFV := Lib.hid (ExI.fin S hI hA hX' hZD (Turned.refl [] W) hK (by omega))
    have HDV := Lib.hid hK
    clear hI hA hX' hZD hK hk hsx
    refine wpIn_exit ?_
    go_wp2
    refine ⟨by simp, .inl ⟨_, _, rfl, run_takeDeferred HDV.out, ?_⟩⟩
    exact ⟨_, results_tmp rfl _ _ _, rfl, HFV.out _⟩
end Go.Proofs.Ytiffgkmmibhklaa
