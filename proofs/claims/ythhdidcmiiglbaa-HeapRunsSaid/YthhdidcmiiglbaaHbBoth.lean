/-
  The heap's calls, told by the document's words.
-/
import Derived.Test.YthhdidcmiiglbaaHbLaw
namespace Go.Proofs.Ythhdidcmiiglbaa
open Go.RowKit Go.Maps

theorem hasI_mem {D : List It} {id : Int} : 0 ≤ hasI D id ↔ ∃ y ∈ D, y.2.1 = id := by
  rcases hasI_cases D id with ⟨h1, h2⟩ | ⟨k, hk, h1, h2⟩
  · rw [h1]
    constructor
    · intro h; omega
    · rintro ⟨y, hy, e⟩
      exact absurd e (h2 y hy)
  · rw [h1]
    exact ⟨fun _ => ⟨_, List.getElem_mem hk, h2⟩, fun _ => by omega⟩
theorem hasI_lt (D : List It) (id : Int) : hasI D id < D.length := by
  rcases hasI_cases D id with ⟨h1, _⟩ | ⟨k, hk, h1, _⟩ <;> omega
theorem push_all {w : World} {b : Nat} {X : List Nat} {m : Int} {D : List It} (h : HpC w b X m D) (x : It) (hx : (litN x.2.1).wf = true) (hD : D.length < 4500) :
    Calls Try.prog 8 #[.pointer (some ⟨b, 0, none⟩), .agg #[.int .u64 x.1, .int .i64 x.2.1], .int .i64 x.2.2] w fun e w' => e = .returned (.int .i64 (pushE m D x.2.1)) ∧
      ∃ X', HpC w' b X' m (pushL m D x) ∧ Turned X w w' ∧ Newer X w.heap.size X' := by
  by_cases h0 : 0 ≤ hasI D x.2.1
  · have e : pushE m D x.2.1 = 12 := by simp [pushE, h0]
    rw [pushL, e, if_neg (by omega)]
    exact (push_met h x hx (hasI_mem.1 h0)).mono fun e w' ⟨he, ht⟩ => ⟨he, X, h.keep ht (by simp), ht.up, Newer.refl _ _⟩
  · have hno : ∀ y ∈ D, y.2.1 ≠ x.2.1 := fun y hy e => h0 (hasI_mem.2 ⟨y, hy, e⟩)
    by_cases hm : m ≤ D.length
    · have e : pushE m D x.2.1 = 3 := by simp [pushE, h0, hm]
      rw [pushL, e, if_neg (by omega)]
      exact (push_full h x hx hno hm).mono fun e w' ⟨he, ht⟩ => ⟨he, X, h.keep ht (by simp), ht.up, Newer.refl _ _⟩
    · have e : pushE m D x.2.1 = 0 := by simp [pushE, h0, hm]
      rw [pushL, e, if_pos rfl]
      exact push_yes h x hx hno (by omega) hD
/-- The zero item and false, or the one at a place and true. -/
abbrev ansV (D : List It) (i : Int) : Value := .tuple #[.agg #[.int .u64 (takV D i).1, .int .i64 (takV D i).2.1], .int .i64 (takV D i).2.2, .bool (decide (0 ≤ i))]
theorem pop_all {w : World} {b : Nat} {X : List Nat} {m : Int} {D : List It} (h : HpC w b X m D) :
    Calls Try.prog 10 #[.pointer (some ⟨b, 0, none⟩)] w fun e w' => e = .returned (ansV D (firstI D)) ∧ HpC w' b X m (takL D (firstI D)) ∧ Turned X w w' := by
  by_cases h0 : 0 < D.length
  · refine (pop_some h h0).mono ?_
    rintro e w' ⟨x, D', rfl, hp, hl, hc, ht⟩
    obtain ⟨f0, f1, f2, f3⟩ := first_pop hp hl (fun y hy e => h.one hy (hp.mem_iff.2 (by simp)) e)
    refine ⟨?_, hc.perm ((hp.symm.trans f3).cons_inv), ht⟩
    rw [ansV, f2, show decide (0 ≤ firstI D) = true by simpa using f0]
  · obtain rfl : D = [] := List.eq_nil_of_length_eq_zero (by omega)
    refine (show Calls Try.prog 10 #[.pointer (some ⟨b, 0, none⟩)] w _ from pop_none (some b) (by rintro k ⟨⟩; exact ⟨X, m, h⟩)).mono ?_
    rintro e w' ⟨rfl, ht⟩
    exact ⟨rfl, h.keep ht (by simp), ht.up⟩
theorem remove_all {w : World} {b : Nat} {X : List Nat} {m : Int} {D : List It} (h : HpC w b X m D) (id : Int) (hw : (litN id).wf = true) :
    Calls Try.prog 13 #[.pointer (some ⟨b, 0, none⟩), .int .i64 id] w fun e w' => e = .returned (ansV D (hasI D id)) ∧ HpC w' b X m (takL D (hasI D id)) ∧ Turned X w w' := by
  rcases hasI_cases D id with ⟨h1, h2⟩ | ⟨k, hk, h1, h2⟩
  · rw [h1]
    refine (remove_none h id hw h2).mono ?_
    rintro e w' ⟨rfl, ht⟩
    exact ⟨rfl, h.keep ht (by simp), ht.up⟩
  · rw [h1]
    have hc := remove_some h (List.getElem_mem hk)
    rw [h2] at hc
    refine hc.mono ?_
    rintro e w' ⟨D', rfl, hp, hc, ht⟩
    have e1 : takV D (k : Int) = D[k] := by
      rw [takV, if_neg (by omega), Int.toNat_natCast]
      simp [List.getD, hk]
    have e2 : takL D (k : Int) = D.eraseIdx k := by rw [takL, if_neg (by omega), Int.toNat_natCast]
    rw [ansV, e1, e2, show decide ((0 : Int) ≤ (k : Int)) = true by simp, h2]
    exact ⟨rfl, hc.perm ((hp.symm.trans (get_perm D k hk)).cons_inv), ht⟩
/-- What Move answers, and what is there behind it. -/
def movE (D : List It) (id : Int) : Int := if 0 ≤ hasI D id then 0 else 4
def movL (D : List It) (id v : Int) : List It := if 0 ≤ hasI D id then D.set (hasI D id).toNat (v, (D.getD (hasI D id).toNat (0, 0, 0)).2) else D
theorem move_all {w : World} {b : Nat} {X : List Nat} {m : Int} {D : List It} (h : HpC w b X m D) (id v : Int) (hw : (litN id).wf = true) :
    Calls Try.prog 15 #[.pointer (some ⟨b, 0, none⟩), .int .i64 id, .int .u64 v] w fun e w' => e = .returned (.int .i64 (movE D id)) ∧ HpC w' b X m (movL D id v) ∧ Turned X w w' := by
  rcases hasI_cases D id with ⟨h1, h2⟩ | ⟨k, hk, h1, h2⟩
  · rw [movE, movL, h1, if_neg (by omega), if_neg (by omega)]
    refine (move_none h id v hw h2).mono ?_
    rintro e w' ⟨rfl, rfl⟩
    exact ⟨rfl, h, Turned.refl _ _⟩
  · rw [movE, movL, h1, if_pos (by omega), if_pos (by omega), Int.toNat_natCast]
    have hc := move_some h hk v
    rw [h2] at hc
    have e : D.getD k (0, 0, 0) = D[k] := by simp [List.getD, hk]
    rw [e]
    exact hc
theorem peek_all {w : World} {b : Nat} {X : List Nat} {m : Int} {D : List It} (h : HpC w b X m D) :
    Calls Try.prog 16 #[.pointer (some ⟨b, 0, none⟩)] w fun e w' => e = .returned (ansV D (firstI D)) ∧ Turned [] w w' := by
  by_cases h0 : 0 < D.length
  · refine (peek_some h h0).mono ?_
    rintro e w' ⟨x, rfl, hx, hl, ht⟩
    obtain ⟨j, hj, e1, e2⟩ := first_least hx hl (fun y hy e => h.one hy hx e)
    refine ⟨?_, ht⟩
    have e3 : takV D (j : Int) = x := by
      rw [takV, if_neg (by omega), Int.toNat_natCast]
      simp [List.getD, hj, e2]
    rw [ansV, e1, e3, show decide ((0 : Int) ≤ (j : Int)) = true by simp]
  · obtain rfl : D = [] := List.eq_nil_of_length_eq_zero (by omega)
    refine (show Calls Try.prog 16 #[.pointer (some ⟨b, 0, none⟩)] w _ from peek_none (some b) (by rintro k ⟨⟩; exact ⟨X, m, h⟩)).mono ?_
    rintro e w' ⟨rfl, ht⟩
    exact ⟨rfl, ht⟩

/-- What stands between two deeds. -/
def Both (w wr : World) (b r : Nat) (m : Int) (D : List It) : Prop :=
  ∃ X Y, HpC wr b X m D ∧ R4 wr r Y m D ∧ (∀ k ∈ X, k ∉ Y) ∧ (∀ k ∈ X, w.heap.size ≤ k) ∧ (∀ k ∈ Y, w.heap.size ≤ k) ∧ Turned [] w wr ∧ ∀ x ∈ D, x.1 ≤ 18446744073709551615
theorem R4.off {W : World} {r : Nat} {Y : List Nat} {m : Int} {D : List It} (h : R4 W r Y m D) {k : Nat} {o : Obj} (hk : W.heap[k]? = some o) (ho : ∀ c t, o = .cells c t (0, 0) → t ≠ tH4 ∧ t ≠ tI4) : k ∉ Y := by
  intro hx
  rcases LAt.kinds h k hx with ⟨c, hc⟩ | ⟨c, hc⟩
  · rw [hk] at hc
    cases hc
    exact (ho _ _ rfl).1 rfl
  · rw [hk] at hc
    cases hc
    exact (ho _ _ rfl).2 rfl
/-- Both have done a deed, the one behind the other. -/
theorem Both.step {w W W1 W2 : World} {b r : Nat} {X Y X1 Y2 : List Nat} {m : Int} {D1 : List It} (hXY : ∀ k ∈ X, k ∉ Y) (hX : ∀ k ∈ X, w.heap.size ≤ k) (hY : ∀ k ∈ Y, w.heap.size ≤ k) (hT : Turned [] w W) (hYW : ∀ k ∈ Y, k < W.heap.size)
    (h1 : HpC W1 b X1 m D1) (t1 : Turned X W W1) (n1 : Newer X W.heap.size X1) (h2 : R4 W2 r Y2 m D1) (t2 : Turned Y W1 W2) (n2 : Newer Y W1.heap.size Y2) (hV : ∀ x ∈ D1, x.1 ≤ 18446744073709551615) : Both w W2 b r m D1 := by
  have hws := hT.size
  have s1 := t1.size
  refine ⟨X1, Y2, h1.keep t2 (fun k hk hy => ?_), h2, fun k hk hy => ?_, fun k hk => ?_, fun k hk => ?_, (hT.trans' t1 hX).trans' t2 hY, hV⟩
  · rcases n1 k hk with h | h
    · exact hXY k h hy
    · have := hYW k hy; omega
  · have hkl := h1.lt k hk
    rcases n2 k hy with h | h
    · rcases n1 k hk with h' | h'
      · exact hXY k h' h
      · have := hYW k h; omega
    · omega
  · rcases n1 k hk with h | h
    · exact hX k h
    · omega
  · rcases n2 k hk with h | h
    · exact hY k h
    · omega
theorem Both.later {w W W' : World} {b r : Nat} {m : Int} {D : List It} (h : Both w W b r m D) (t : Turned [] W W') : Both w W' b r m D := by
  obtain ⟨X, Y, h1, h2, h3, h4, h5, h6, h7⟩ := h
  exact ⟨X, Y, h1.keep t (by simp), LAt.keep h2 t (by simp), h3, h4, h5, h6.j t, h7⟩
theorem takL_sub {D : List It} {i : Int} {P : It → Prop} (h : ∀ x ∈ D, P x) : ∀ x ∈ takL D i, P x := by
  intro x hx
  unfold takL at hx
  split at hx
  · exact h x hx
  · exact h x (List.mem_of_mem_eraseIdx hx)
theorem takL_len (D : List It) (i : Int) : (takL D i).length ≤ D.length := by
  unfold takL
  split
  · exact Nat.le_refl _
  · rw [List.length_eraseIdx]; split <;> omega
theorem pushL_sub {m : Int} {D : List It} {x : It} {P : It → Prop} (h : ∀ y ∈ D, P y) (hx : P x) : ∀ y ∈ pushL m D x, P y := by
  intro y hy
  unfold pushL at hy
  split at hy
  · rcases List.mem_append.1 hy with hy | hy
    · exact h y hy
    · simp at hy
      rw [hy]; exact hx
  · exact h y hy
theorem pushL_len (m : Int) (D : List It) (x : It) : (pushL m D x).length ≤ D.length + 1 := by
  unfold pushL
  split <;> simp
theorem movL_sub {D : List It} {id v : Int} {P : It → Prop} (h : ∀ y ∈ D, P y) (hx : ∀ y, P (v, y)) : ∀ y ∈ movL D id v, P y := by
  intro y hy
  unfold movL at hy
  split at hy
  · rcases List.mem_or_eq_of_mem_set hy with hy | hy
    · exact h y hy
    · rw [hy]; exact hx _
  · exact h y hy
theorem movL_len (D : List It) (id v : Int) : (movL D id v).length = D.length := by
  unfold movL
  split <;> simp
end Go.Proofs.Ythhdidcmiiglbaa
