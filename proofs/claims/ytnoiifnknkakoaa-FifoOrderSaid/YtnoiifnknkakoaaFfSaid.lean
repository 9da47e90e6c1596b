/-
  What is to be said of the program's queues (values of type int), for the laws of stage 5.
-/
import Derived.Test.YtnoiifnknkakoaaFfPour
namespace Go.Proofs.Ytnoiifnknkakoaa
open Go.RowKit

/-- Block b holds a queue: room m, last ticket l, items L; X are its blocks. -/
structure QSaid where
  At : World → Nat → List Nat → Int → Int → List Ft → Prop
  keep : ∀ {w w' : World} {b : Nat} {X Y : List Nat} {m l : Int} {L : List Ft}, At w b X m l L → Turned Y w w' → (∀ k ∈ X, k ∉ Y) → At w' b X m l L
  lt : ∀ {w : World} {b : Nat} {X : List Nat} {m l : Int} {L : List Ft}, At w b X m l L → ∀ k ∈ X, k < w.heap.size
  new : ∀ (q : Int) (w : World), Calls Try.prog 7 #[.int .i64 q] w fun e w' => ∃ b X, e = .returned (.pointer (some ⟨b, 0, none⟩)) ∧ At w' b X (min (max q 0) 4096) 0 [] ∧ Turned [] w w' ∧ ∀ k ∈ X, w.heap.size ≤ k
  len : ∀ {w : World} {b : Nat} {X : List Nat} {m l : Int} {L : List Ft}, At w b X m l L → Calls Try.prog 20 #[.pointer (some ⟨b, 0, none⟩)] w fun e w' => e = .returned (.int .i64 (L.length : Nat)) ∧ ∃ n, w' = w.drewN n
  push : ∀ {w : World} {b : Nat} {X : List Nat} {m l : Int} {L : List Ft} (v : Int), At w b X m l L → L.length ≤ 5000 → 0 ≤ l → l ≤ 100000 →
    Calls Try.prog 9 #[.pointer (some ⟨b, 0, none⟩), .int .i64 v] w fun e w' => e = .returned (.tuple #[.int .i64 (psT m l L), .int .i64 (psE m L)]) ∧
      ∃ X', At w' b X' m (psN m l L) (psL m l L v) ∧ Turned X w w' ∧ Newer X w.heap.size X'
  pop : ∀ {w : World} {b : Nat} {X : List Nat} {m l : Int} {L : List Ft}, At w b X m l L → L.length ≤ 5000 →
    Calls Try.prog 11 #[.pointer (some ⟨b, 0, none⟩)] w fun e w' => e = .returned (.tuple #[.int .i64 (tkV L 0), .bool (tkB L 0)]) ∧
      ∃ X', At w' b X' m l (tkL L 0) ∧ Turned X w w' ∧ Newer X w.heap.size X'
  remove : ∀ {w : World} {b : Nat} {X : List Nat} {m l : Int} {L : List Ft} (t : Int), (Lit.int .i64 t).wf = true → At w b X m l L → L.length ≤ 5000 →
    Calls Try.prog 13 #[.pointer (some ⟨b, 0, none⟩), .int .i64 t] w fun e w' => e = .returned (.tuple #[.int .i64 (tkV L (atI L t)), .bool (tkB L (atI L t))]) ∧
      ∃ X', At w' b X' m l (tkL L (atI L t)) ∧ Turned X w w' ∧ Newer X w.heap.size X'
  get : ∀ {w : World} {b : Nat} {X : List Nat} {m l : Int} {L : List Ft} (t : Int), (Lit.int .i64 t).wf = true → At w b X m l L → L.length ≤ 5000 →
    Calls Try.prog 15 #[.pointer (some ⟨b, 0, none⟩), .int .i64 t] w fun e w' => e = .returned (.tuple #[.int .i64 (tkV L (atI L t)), .bool (tkB L (atI L t))]) ∧ Turned [] w w'
  pour : ∀ {w : World} {a b : Nat} {X Y : List Nat} {mA lA mB lB : Int} {A B : List Ft} (n : Int), At w a X mA lA A → At w b Y mB lB B → (∀ j ∈ X, j ∉ Y) → A.length ≤ 5000 → B.length ≤ 5000 → 0 ≤ lB → lB ≤ 90000 →
    Calls Try.prog 16 #[.pointer (some ⟨a, 0, none⟩), .pointer (some ⟨b, 0, none⟩), .int .i64 n] w fun e w' => e = .returned (.int .i64 (pourK n A B mB)) ∧
      ∃ X' Y', At w' a X' mA lA (A.drop (pourK n A B mB)) ∧ At w' b Y' mB (lB + pourK n A B mB) (pourB B lB A (pourK n A B mB)) ∧ (∀ j ∈ X', j ∉ Y') ∧ Turned (X ++ Y) w w' ∧ Newer X w.heap.size X' ∧ Newer Y w.heap.size Y'
theorem Turned.then0 {X : List Nat} {a b c : World} (h : Turned X a b) (g : Turned [] b c) : Turned X a c := h.trans g (fun k hk => by simp at hk)
/-- awake answers true. -/
def Awake5 : Prop := ∀ w : World, Calls Try.prog 6 #[] w fun e w' => e = .returned (.bool true) ∧ Turned [] w w'

/-- The items behind k pushes into a new queue. -/
def pushed (z : List Int) (k : Nat) : List Ft := (List.range k).map fun i : Nat => ((i : Int) + 1, z.getD i 0)
theorem pushed_len (z : List Int) (k : Nat) : (pushed z k).length = k := by simp [pushed]
theorem pushed_succ (z : List Int) (k : Nat) : pushed z (k + 1) = pushed z k ++ [((k : Int) + 1, z.getD k 0)] := by simp [pushed, List.range_succ]
theorem pushed_at (z : List Int) {k i : Nat} (h : i < k) : (pushed z k).getD i (0, 0) = ((i : Int) + 1, z.getD i 0) := by simp [pushed, h]
theorem psL_pushed {z : List Int} {k : Nat} {m : Int} (h : (k : Int) < m) : psL m k (pushed z k) (z.getD k 0) = pushed z (k + 1) ∧ psN m k (pushed z k) = (k : Int) + 1 := by
  unfold psL psN
  rw [pushed_len, if_neg (by omega), if_neg (by omega), pushed_succ]
  exact ⟨rfl, rfl⟩
end Go.Proofs.Ytnoiifnknkakoaa
