/-
  Places with values, told by their cells; an arena in memory. No program.
-/
import Derived.Test.YtnoiifnknkakoaaArOwn
namespace Go.Proofs.Ytnoiifnknkakoaa
open Go.RowKit

section
variable {α : Type}
/-- The cells of slots: a value's, and whether it is taken. -/
def slots (enc : α → List Value) (S : List (α × Bool)) : List Value := S.flatMap fun s => enc s.1 ++ [.bool s.2]
/-- The cells of places. -/
def places (F : List Nat) : List Value := F.map fun f : Nat => Value.int .i64 (f : Int)

theorem slots_len {enc : α → List Value} {k : Nat} (hk : ∀ x, (enc x).length = k) (S : List (α × Bool)) : (slots enc S).length = S.length * (k + 1) := by
  induction S with
  | nil => simp [slots]
  | cons s S ih =>
    simp only [slots, List.flatMap_cons, List.length_append, List.length_cons, List.length_nil, hk] at ih ⊢
    rw [ih, Nat.add_mul]
    omega
theorem slots_append (enc : α → List Value) (S T : List (α × Bool)) : slots enc (S ++ T) = slots enc S ++ slots enc T := by simp [slots]
theorem slots_get {enc : α → List Value} {k : Nat} (hk : ∀ x, (enc x).length = k) : ∀ (S : List (α × Bool)) (j i : Nat) (hj : j < S.length), i < k + 1 → (slots enc S)[j * (k + 1) + i]? = (enc S[j].1 ++ [.bool S[j].2])[i]?
  | s :: S, 0, i, _, hi => by
    simp only [slots, List.flatMap_cons, Nat.zero_mul, Nat.zero_add, List.getElem_cons_zero]
    rw [List.getElem?_append_left (by simp [hk]; omega)]
  | s :: S, j + 1, i, hj, hi => by
    have ih := slots_get hk S j i (by simpa using hj) hi
    have e : (j + 1) * (k + 1) + i = (enc s.1 ++ [Value.bool s.2]).length + (j * (k + 1) + i) := by
      simp only [List.length_append, hk, List.length_cons, List.length_nil, Nat.add_mul]; omega
    simp only [List.getElem_cons_succ]
    rw [← ih, e]
    simp only [slots, List.flatMap_cons]
    rw [List.getElem?_append_right (by omega)]
    congr 1
    omega
theorem slots_set1 {e : α → Value} : ∀ (S : List (α × Bool)) (j : Nat) (x : α × Bool), slots (fun x => [e x]) (S.set j x) = ((slots (fun x => [e x]) S).set (j * 2) (e x.1)).set (j * 2 + 1) (.bool x.2)
  | [], j, x => by simp [slots]
  | s :: S, 0, x => by simp [slots]
  | s :: S, j + 1, x => by
    have ih := slots_set1 (e := e) S j x
    have e1 : (j + 1) * 2 = j * 2 + 1 + 1 := by omega
    simp only [slots, List.flatMap_cons, List.set_cons_succ, List.cons_append, List.nil_append, e1] at ih ⊢
    rw [ih]
theorem slots_set2 {e0 e1 : α → Value} : ∀ (S : List (α × Bool)) (j : Nat) (x : α × Bool), slots (fun x => [e0 x, e1 x]) (S.set j x) =
    (((slots (fun x => [e0 x, e1 x]) S).set (j * 3) (e0 x.1)).set (j * 3 + 1) (e1 x.1)).set (j * 3 + 2) (.bool x.2)
  | [], j, x => by simp [slots]
  | s :: S, 0, x => by simp [slots]
  | s :: S, j + 1, x => by
    have ih := slots_set2 (e0 := e0) (e1 := e1) S j x
    have h1 : (j + 1) * 3 = j * 3 + 1 + 1 + 1 := by omega
    simp only [slots, List.flatMap_cons, List.set_cons_succ, List.cons_append, List.nil_append, h1] at ih ⊢
    rw [ih]
/-- The cells of a slot of five cells, stored one by one. -/
theorem slots_set4 {enc : α → List Value} (hk : ∀ x, (enc x).length = 4) : ∀ (S : List (α × Bool)) (j : Nat) (x : α × Bool) (a b c d : Value), enc x.1 = [a, b, c, d] → slots enc (S.set j x) =
    (((((slots enc S).set (j * 5) a).set (j * 5 + 1) b).set (j * 5 + 2) c).set (j * 5 + 3) d).set (j * 5 + 4) (.bool x.2)
  | [], j, x, a, b, c, d, _ => by simp [slots]
  | s :: S, 0, x, a, b, c, d, he => by
    obtain ⟨p, q, r, t, hs⟩ : ∃ p q r t, enc s.1 = [p, q, r, t] := by
      have := hk s.1
      match h : enc s.1, this with
      | [p, q, r, t], _ => exact ⟨p, q, r, t, rfl⟩
    simp [slots, he, hs]
  | s :: S, j + 1, x, a, b, c, d, he => by
    obtain ⟨p, q, r, t, hs⟩ : ∃ p q r t, enc s.1 = [p, q, r, t] := by
      have := hk s.1
      match h : enc s.1, this with
      | [p, q, r, t], _ => exact ⟨p, q, r, t, rfl⟩
    have ih := slots_set4 hk S j x a b c d he
    have h1 : (j + 1) * 5 = j * 5 + 1 + 1 + 1 + 1 + 1 := by omega
    simp only [slots, List.flatMap_cons, List.set_cons_succ, hs, List.cons_append, List.nil_append, h1] at ih ⊢
    rw [ih]
theorem places_len (F : List Nat) : (places F).length = F.length := by simp [places]
theorem places_get (F : List Nat) (j : Nat) (hj : j < F.length) : (places F)[j]? = some (.int .i64 (F[j] : Int)) := by simp [places, hj]

/-- Block b holds an arena (of type tA; its slots of type tS, k + 1 cells each): room m, slots S, free places F. X: its blocks. -/
def ArAt (tA tS : TypeId) (enc : α → List Value) (k : Nat) (w : World) (b : Nat) (X : List Nat) (m : Int) (S : List (α × Bool)) (F : List Nat) : Prop :=
  ∃ sv fv, w.heap[b]? = some (.cells #[.int .i64 m, sv, fv] tA (0, 0)) ∧ w.ownsRow 0 tS (k + 1) sv S.length (slots enc S) ∧ w.ownsRow 0 3 1 fv F.length (places F) ∧
    X = b :: (sv.ownBlock.toList ++ fv.ownBlock.toList)

theorem ArAt.keep {tA tS : TypeId} {enc : α → List Value} {k : Nat} {w w' : World} {b : Nat} {X Y : List Nat} {m : Int} {S : List (α × Bool)} {F : List Nat}
    (h : ArAt tA tS enc k w b X m S F) (ht : Turned Y w w') (hd : ∀ k ∈ X, k ∉ Y) : ArAt tA tS enc k w' b X m S F := by
  obtain ⟨sv, fv, h1, h2, h3, rfl⟩ := h
  refine ⟨sv, fv, ht.same h1 (hd _ (by simp)), ownsRow_same h2 (fun k hk hl => ht.block k hl (hd k ?_)), ownsRow_same h3 (fun k hk hl => ht.block k hl (hd k ?_)), rfl⟩
  · exact List.mem_cons_of_mem _ (List.mem_append_left _ hk)
  · exact List.mem_cons_of_mem _ (List.mem_append_right _ hk)
theorem ArAt.head {tA tS : TypeId} {enc : α → List Value} {k : Nat} {w : World} {b : Nat} {X : List Nat} {m : Int} {S : List (α × Bool)} {F : List Nat}
    (h : ArAt tA tS enc k w b X m S F) : b ∈ X := by
  obtain ⟨sv, fv, h1, h2, h3, rfl⟩ := h
  simp
theorem ArAt.lt {tA tS : TypeId} {enc : α → List Value} {k : Nat} {w : World} {b : Nat} {X : List Nat} {m : Int} {S : List (α × Bool)} {F : List Nat}
    (h : ArAt tA tS enc k w b X m S F) : ∀ k ∈ X, k < w.heap.size := by
  obtain ⟨sv, fv, h1, h2, h3, rfl⟩ := h
  intro k hk
  rcases List.mem_cons.1 hk with rfl | hk
  · exact lt_of_block h1
  · rcases List.mem_append.1 hk with hk | hk
    · exact ownsRow_lt h2 k hk
    · exact ownsRow_lt h3 k hk

/-- Is there a value at this place? -/
def isB (S : List (α × Bool)) (at' : Int) : Bool := decide (0 ≤ at') && (S[at'.toNat]?.map (·.2)).getD false
theorem isB_true {S : List (α × Bool)} {at' : Int} (h : isB S at' = true) : ∃ j v, at' = ((j : Nat) : Int) ∧ j < S.length ∧ S[j]? = some (v, true) := by
  simp only [isB, Bool.and_eq_true, decide_eq_true_eq] at h
  obtain ⟨j, rfl⟩ := Int.eq_ofNat_of_zero_le h.1
  have h2 := h.2
  simp only [Int.toNat_natCast] at h2
  cases hs : S[j]? with
  | none => simp [hs] at h2
  | some p =>
    simp [hs] at h2
    exact ⟨j, p.1, rfl, (List.getElem?_eq_some_iff.1 hs).1, by rw [hs, ← h2]⟩
theorem isB_mk {S : List (α × Bool)} {j : Nat} {v : α} {t : Bool} (h : S[j]? = some (v, t)) : isB S (j : Int) = t := by
  simp [isB, h]
end
theorem places_snoc (F : List Nat) (f : Nat) : places (F ++ [f]) = places F ++ [.int .i64 (f : Int)] := by simp [places]
end Go.Proofs.Ytnoiifnknkakoaa
