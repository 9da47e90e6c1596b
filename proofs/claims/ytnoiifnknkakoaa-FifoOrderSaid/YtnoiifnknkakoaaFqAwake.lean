/-
  awake.
-/
import Derived.Test.YtnoiifnknkakoaaFqOpsS
import Derived.Test.YtnoiifnknkakoaaFfSaid
namespace Go.Proofs.Ytnoiifnknkakoaa
open Go.RowKit Go.Maps

/-- What turns memory made since w turns none of w. -/
theorem step_new {w wa wb : World} {X X' : List Nat} (t : Turned [] w wa) (n : ∀ k ∈ X, w.heap.size ≤ k) (t' : Turned X wa wb) (n' : Newer X wa.heap.size X') : Turned [] w wb ∧ ∀ k ∈ X', w.heap.size ≤ k :=
  ⟨t.trans t' (fun k hk => .inr (n k hk)), fun k hk => by
    rcases n' k hk with h | h
    · exact n k h
    · have := t.size; omega⟩
section
variable {w wa : World} {b : Nat} {X : List Nat} {l : Int} {P B : List (Pl ByteArray)} {x : Pl ByteArray}
theorem aw_push (h : St.FQ wa b X 5 l P ∧ Turned [] w wa ∧ ∀ k ∈ X, w.heap.size ≤ k) (v : ByteArray) {l' : Int} (hl' : l' = l + 1) (hm : P.length < 5) (hl : l ≤ 100000) :
    Calls Try.prog 22 #[.pointer (some ⟨b, 0, none⟩), .string v] wa fun e w' => e = .returned (.tuple #[.int .i64 l', .int .i64 0]) ∧
      ∃ X' p, St.FQ w' b X' 5 l' (P ++ [(p, l', v)]) ∧ Turned [] w w' ∧ ∀ k ∈ X', w.heap.size ≤ k := by
  subst hl'
  exact (St.fqpush_yes h.1 v (by omega) hl).mono fun e w' ⟨he, X', p, q1, q2, q3⟩ => ⟨he, X', p, q1, step_new h.2.1 h.2.2 q2 q3⟩
theorem aw_remove {A : List (Pl ByteArray)} (h : St.FQ wa b X 5 l (A ++ x :: B) ∧ Turned [] w wa ∧ ∀ k ∈ X, w.heap.size ≤ k) :
    Calls Try.prog 23 #[.pointer (some ⟨b, 0, none⟩), .int .i64 x.2.1] wa fun e w' => e = .returned (.tuple #[.string x.2.2, .bool true]) ∧
      ∃ X', St.FQ w' b X' 5 l (A ++ B) ∧ Turned [] w w' ∧ ∀ k ∈ X', w.heap.size ≤ k :=
  (St.fqremove_yes h.1 _ rfl).mono fun _ _ ⟨he, X', q1, q2, q3⟩ => ⟨he, X', q1, step_new h.2.1 h.2.2 q2 q3⟩
theorem aw_pop (h : St.FQ wa b X 5 l (x :: B) ∧ Turned [] w wa ∧ ∀ k ∈ X, w.heap.size ≤ k) :
    Calls Try.prog 24 #[.pointer (some ⟨b, 0, none⟩)] wa fun e w' => e = .returned (.tuple #[.string x.2.2, .bool true]) ∧
      ∃ X', St.FQ w' b X' 5 l B ∧ Turned [] w w' ∧ ∀ k ∈ X', w.heap.size ≤ k :=
  (St.fqpop_some h.1).mono fun _ _ ⟨he, X', q1, q2, q3⟩ => ⟨he, X', q1, step_new h.2.1 h.2.2 q2 q3⟩
end

set_option maxRecDepth 100000 in
set_option maxHeartbeats 1600000 in
theorem awake5 : Awake5 := by
  intro w
  have H0 := Lib.hid (St.fqnew_any 5 w)
  rw [show min (max (5 : Int) 0) 4096 = 5 by decide] at H0
  go_enter Try.func6, Try.ntmps6
  go_wp2_with fail
  refine H0.out.mono ?_
  rintro e w1 ⟨b, X, rfl, h1⟩
  have H1 := Lib.hid (aw_push h1 ⟨#[97]⟩ (l' := 1) rfl (by decide) (by decide))
  simp only [List.nil_append] at H1
  clear h1 H0
  go_wp2_with fail
  with_reducible refine H1.out.mono ?_
  rintro e w2 ⟨rfl, X2, p1, h1⟩
  have H2 := Lib.hid (aw_push h1 ⟨#[98]⟩ (l' := 2) rfl (by simp) (by decide))
  simp only [List.cons_append, List.nil_append] at H2
  clear h1 H1
  go_wp2_with fail
  with_reducible refine H2.out.mono ?_
  rintro e w3 ⟨rfl, X3, p2, h1⟩
  have H3 := Lib.hid (aw_push h1 ⟨#[99]⟩ (l' := 3) rfl (by simp) (by decide))
  simp only [List.cons_append, List.nil_append] at H3
  clear h1 H2
  go_wp2_with fail
  with_reducible refine H3.out.mono ?_
  rintro e w4 ⟨rfl, X4, p3, h1⟩
  have H4 := Lib.hid (aw_remove (A := [(p1, 1, ⟨#[97]⟩)]) (x := (p2, 2, ⟨#[98]⟩)) (B := [(p3, 3, ⟨#[99]⟩)]) h1)
  simp only [List.cons_append, List.nil_append] at H4
  clear h1 H3
  go_wp2_with fail
  with_reducible refine H4.out.mono ?_
  rintro e w5 ⟨rfl, X5, h1⟩
  have H5 := Lib.hid (aw_pop h1)
  simp only at H5
  clear h1 H4
  go_wp2_with fail
  with_reducible refine H5.out.mono ?_
  rintro e w6 ⟨rfl, X6, h1⟩
  have H6 := Lib.hid (aw_pop h1)
  simp only at H6
  clear h1 H5
  go_wp2_with fail
  with_reducible refine H6.out.mono ?_
  rintro e w7 ⟨rfl, X7, h1, t1, n1⟩
  have HL := Lib.hid (St.fqlen_yes h1)
  have HT := Lib.hid t1
  simp only [List.length_nil] at HL
  clear h1 t1 n1 H6
  have s1 : ((⟨#[97]⟩ : ByteArray) == ⟨#[97]⟩) = true := by decide
  have s2 : ((⟨#[98]⟩ : ByteArray) == ⟨#[98]⟩) = true := by decide
  have s3 : ((⟨#[99]⟩ : ByteArray) == ⟨#[99]⟩) = true := by decide
  go_wp2_with fail
  refine HL.out.mono ?_
  rintro e w8 ⟨rfl, n, rfl⟩
  go_wp2
  go_ret
  exact ⟨rfl, HT.out.drewN n⟩
end Go.Proofs.Ytnoiifnknkakoaa
