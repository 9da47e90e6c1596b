/-
  (*Queue[int]): Get; Pour; what is to be said of queues, all of it.
-/
import Derived.Test.YtnoiifnknkakoaaFqOps
import Derived.Test.YtnoiifnknkakoaaFfSaid
namespace Go.Proofs.Ytnoiifnknkakoaa
open Go.RowKit Go.Maps

section
variable {w w' : World} {b : Nat} {X Y : List Nat} {m l : Int} {P A B : List (Pl Int)} {x : Pl Int}
set_option maxHeartbeats 400000 in
theorem fqget_no (h : FQ w b X m l P) (t : Int) (ht : (litN t).wf = true) (hn : lookP P t = none) :
    Calls Try.prog 15 #[.pointer (some ⟨b, 0, none⟩), .int .i64 t] w fun e w' => e = .returned (.tuple #[.int .i64 0, .bool false]) ∧ Turned [] w w' := by
  obtain ⟨S, F, f, fst, lst, h1, h2, _⟩ := h
  have hp := fqplace_any h1 t ht
  rw [h2.fs, hn] at hp
  have H := Lib.hid hp
  have HT := Lib.hid (Turned.refl [] w)
  clear hp h1 h2 hn
  go_enter Try.func15, Try.ntmps15
  go_wp2_with fail
  refine H.out.mono ?_
  rintro e w1 ⟨rfl, rfl⟩
  simp only [Option.getD_none, Option.isSome_none]
  go_wp2
  go_ret2
  exact ⟨rfl, HT.out⟩
set_option maxRecDepth 100000 in
set_option maxHeartbeats 400000 in
theorem fqget_yes (h : FQ w b X m l (A ++ x :: B)) (t : Int) (ht : t = x.2.1) :
    Calls Try.prog 15 #[.pointer (some ⟨b, 0, none⟩), .int .i64 t] w fun e w' => e = .returned (.tuple #[.int .i64 x.2.2, .bool true]) ∧ Turned [] w w' := by
  subst ht
  obtain ⟨S, F, f, fst, lst, h1, h2, h3, h4⟩ := h
  have hb := h2.bnd x (by simp)
  have ht : (litN x.2.1).wf = true := WalkArith.wf_i64 (by omega)
  obtain ⟨s1, s2, s3⟩ := h2.split
  have hp := fqplace_any h1 x.2.1 ht
  rw [s2] at hp
  obtain ⟨ab, gm, Y, D, hbb, ha, _⟩ := h1
  have HG := Lib.hid (anget_yes ha (x.1 : Int) x.1 _ rfl s1)
  obtain ⟨c0, _, _, _, _, _⟩ := cells5 hbb
  obtain ⟨x1, x2, x3⟩ := x
  simp only at hp HG ⊢
  have H := Lib.hid hp
  clear hp h2 hb ht s1 s2 s3 hbb ha
  go_enter Try.func15, Try.ntmps15
  go_wp2_with fail
  refine H.out.mono ?_
  rintro e w1 ⟨rfl, rfl⟩
  simp only [Option.getD_some, Option.isSome_some]
  go_wp2_with fail
  with_reducible refine HG.out.mono ?_
  rintro e w2 ⟨rfl, t2⟩
  have T2 := Lib.hid (t2.alloc (ndC (x3, x2, lsP (-1) A, hdP B (-1))))
  clear t2
  go_wp2
  go_ret2
  exact ⟨rfl, T2.out⟩
theorem fqget_nil (t : Int) (w : World) :
    Calls Try.prog 15 #[.pointer none, .int .i64 t] w fun e w' => e = .returned (.tuple #[.int .i64 0, .bool false]) ∧ w' = w := by
  have H : Calls Try.prog 30 #[.pointer none, .int .i64 t] w fun e w' => e = .returned (.tuple #[.int .i64 (-1), .bool false]) ∧ w' = w := by
    go_enter Try.func30, Try.ntmps30
    go_wp2
    go_ret2
    exact ⟨rfl, rfl⟩
  go_enter Try.func15, Try.ntmps15
  go_wp2_with fail
  refine H.mono ?_
  rintro e w1 ⟨rfl, rfl⟩
  go_wp2
  go_ret2
  exact ⟨rfl, rfl⟩
end

/-- Block b holds a queue whose items are L. -/
def QI (w : World) (b : Nat) (X : List Nat) (m l : Int) (L : List Ft) : Prop := ∃ P : List (Pl Int), FQ w b X m l P ∧ L = P.map (·.2)
section
variable {w w' : World} {b : Nat} {X Y : List Nat} {m l : Int} {L : List Ft}
theorem QI.keep (h : QI w b X m l L) (ht : Turned Y w w') (hd : ∀ k ∈ X, k ∉ Y) : QI w' b X m l L := by
  obtain ⟨P, h1, h2⟩ := h
  exact ⟨P, h1.keep ht hd, h2⟩
theorem QI.keep0 (h : QI w b X m l L) (ht : Turned [] w w') : QI w' b X m l L := h.keep ht (by simp)
theorem QI.lt (h : QI w b X m l L) : ∀ k ∈ X, k < w.heap.size := by
  obtain ⟨P, h1, h2⟩ := h
  exact h1.lt
theorem QI.room (h : QI w b X m l L) : (L.length : Int) ≤ m ∧ m ≤ 4096 := by
  obtain ⟨P, h1, rfl⟩ := h
  simpa using h1.room
theorem qnew (q : Int) (w : World) : Calls Try.prog 7 #[.int .i64 q] w fun e w' => ∃ b X, e = .returned (.pointer (some ⟨b, 0, none⟩)) ∧ QI w' b X (min (max q 0) 4096) 0 [] ∧ Turned [] w w' ∧ ∀ k ∈ X, w.heap.size ≤ k :=
  (fqnew_any q w).mono fun _ _ ⟨b, X, he, h1, h2⟩ => ⟨b, X, he, ⟨[], h1, rfl⟩, h2⟩
theorem qlen (h : QI w b X m l L) : Calls Try.prog 20 #[.pointer (some ⟨b, 0, none⟩)] w fun e w' => e = .returned (.int .i64 (L.length : Nat)) ∧ ∃ n, w' = w.drewN n := by
  obtain ⟨P, h1, rfl⟩ := h
  simpa using fqlen_yes h1
theorem qhas (h : QI w b X m l L) : Calls Try.prog 27 #[.pointer (some ⟨b, 0, none⟩)] w fun e w' => e = .returned (.bool (decide ((L.length : Int) < m))) ∧ ∃ n, w' = w.drewN n := by
  obtain ⟨P, h1, rfl⟩ := h
  simpa using fqhas_any h1
theorem qpush (v : Int) (h : QI w b X m l L) (hl : l ≤ 100000) :
    Calls Try.prog 9 #[.pointer (some ⟨b, 0, none⟩), .int .i64 v] w fun e w' => e = .returned (.tuple #[.int .i64 (psT m l L), .int .i64 (psE m L)]) ∧
      ∃ X', QI w' b X' m (psN m l L) (psL m l L v) ∧ Turned X w w' ∧ Newer X w.heap.size X' := by
  obtain ⟨P, h1, rfl⟩ := h
  by_cases hm : m ≤ P.length
  · simp only [psT, psE, psN, psL, List.length_map, if_pos hm]
    exact (fqpush_full h1 v hm).mono fun e w' ⟨he, n, hw⟩ => ⟨he, X, ⟨P, h1.keep0 (by rw [hw]; exact (Turned.refl _ _).drewN _), rfl⟩, by rw [hw]; exact (Turned.refl _ _).drewN _, Newer.refl _ _⟩
  · simp only [psT, psE, psN, psL, List.length_map, if_neg hm]
    exact (fqpush_yes h1 v (by omega) hl).mono fun e w' ⟨he, X', p, q1, q2, q3⟩ => ⟨he, X', ⟨_, q1, by simp⟩, q2, q3⟩
theorem qpop (h : QI w b X m l L) :
    Calls Try.prog 11 #[.pointer (some ⟨b, 0, none⟩)] w fun e w' => e = .returned (.tuple #[.int .i64 (tkV L 0), .bool (tkB L 0)]) ∧
      ∃ X', QI w' b X' m l (tkL L 0) ∧ Turned X w w' ∧ Newer X w.heap.size X' := by
  obtain ⟨P, h1, rfl⟩ := h
  cases P with
  | nil =>
    exact (fqpop_none h1).mono fun e w' ⟨he, n, hw⟩ => ⟨by rw [he]; simp [tkV, tkB], X, ⟨[], h1.keep0 (by rw [hw]; exact (Turned.refl _ _).drewN _), by simp [tkL, tkB]⟩, by rw [hw]; exact (Turned.refl _ _).drewN _, Newer.refl _ _⟩
  | cons x B =>
    refine (fqpop_some h1).mono fun e w' ⟨he, X', q1, q2, q3⟩ => ⟨?_, X', ⟨B, q1, ?_⟩, q2, q3⟩
    · rw [he]
      simp [tkV, tkB]
    · simp [tkL, tkB]
theorem atI_mid {A B : List (Pl Int)} {x : Pl Int} (h : ∀ y ∈ A, y.2.1 ≠ x.2.1) : atI ((A ++ x :: B).map (·.2)) x.2.1 = A.length := by
  unfold atI
  refine place_some (by simp) (by simp) (fun j hj hjk => ?_)
  simp only [List.getElem_map, List.getElem_append_left hjk]
  simpa using h _ (List.getElem_mem hjk)
theorem atI_none {P : List (Pl Int)} {t : Int} (h : ∀ y ∈ P, y.2.1 ≠ t) : atI (P.map (·.2)) t = -1 := by
  unfold atI
  refine place_none (fun j hj => ?_)
  simp only [List.getElem_map]
  simpa using h _ (List.getElem_mem (by simpa using hj))
theorem tk_mid (A B : List (Pl Int)) (x : Pl Int) : tkB ((A ++ x :: B).map (·.2)) (A.length : Int) = true ∧ tkV ((A ++ x :: B).map (·.2)) (A.length : Int) = x.2.2 ∧ tkL ((A ++ x :: B).map (·.2)) (A.length : Int) = (A ++ B).map (·.2) := by
  have hb : tkB ((A ++ x :: B).map (·.2)) (A.length : Int) = true := by
    simp [tkB]
    omega
  refine ⟨hb, ?_, ?_⟩
  · rw [tkV, if_pos hb]
    simp
  · rw [tkL, if_pos hb]
    simp [List.eraseIdx_append_of_length_le]
theorem qremove (t : Int) (ht : (litN t).wf = true) (h : QI w b X m l L) :
    Calls Try.prog 13 #[.pointer (some ⟨b, 0, none⟩), .int .i64 t] w fun e w' => e = .returned (.tuple #[.int .i64 (tkV L (atI L t)), .bool (tkB L (atI L t))]) ∧
      ∃ X', QI w' b X' m l (tkL L (atI L t)) ∧ Turned X w w' ∧ Newer X w.heap.size X' := by
  obtain ⟨P, h1, rfl⟩ := h
  cases hp : lookP P t with
  | none =>
    rw [atI_none (lookP_none hp)]
    exact (fqremove_no h1 t ht hp).mono fun e w' ⟨he, hw⟩ => ⟨by rw [he]; simp [tkV, tkB], X, ⟨P, h1.keep0 (by rw [hw]; exact Turned.refl _ _), by simp [tkL, tkB]⟩, by rw [hw]; exact Turned.refl _ _, Newer.refl _ _⟩
  | some q =>
    obtain ⟨A, x, B, rfl, hx, _, hA⟩ := lookP_some hp
    subst hx
    rw [atI_mid hA]
    obtain ⟨e1, e2, e3⟩ := tk_mid A B x
    rw [e1, e2, e3]
    exact (fqremove_yes h1 _ rfl).mono fun e w' ⟨he, X', q1, q2, q3⟩ => ⟨he, X', ⟨_, q1, rfl⟩, q2, q3⟩
theorem qget (t : Int) (ht : (litN t).wf = true) (h : QI w b X m l L) :
    Calls Try.prog 15 #[.pointer (some ⟨b, 0, none⟩), .int .i64 t] w fun e w' => e = .returned (.tuple #[.int .i64 (tkV L (atI L t)), .bool (tkB L (atI L t))]) ∧ Turned [] w w' := by
  obtain ⟨P, h1, rfl⟩ := h
  cases hp : lookP P t with
  | none =>
    rw [atI_none (lookP_none hp)]
    exact (fqget_no h1 t ht hp).mono fun e w' ⟨he, hw⟩ => ⟨by rw [he]; simp [tkV, tkB], hw⟩
  | some q =>
    obtain ⟨A, x, B, rfl, hx, _, hA⟩ := lookP_some hp
    subst hx
    rw [atI_mid hA]
    obtain ⟨e1, e2, e3⟩ := tk_mid A B x
    rw [e1, e2]
    exact (fqget_yes h1 _ rfl)
end
end Go.Proofs.Ytnoiifnknkakoaa
