/-
  ArenaLeaves: what lies in memory.
-/
import Derived.Test.YtiicbmgompnehaaArPairPut
import Derived.Test.YtiicbmgompnehaaArNil
import Derived.Test.YtiicbmgompnehaaArAwake
import Derived.Test.YtiicbmgompnehaaArInv
import Derived.Test.YtiicbmgompnehaaArRound
namespace Go.Proofs.Ytiicbmgompnehaa
open Go.RowKit

/-- The slots behind k Puts. -/
def mk (zs : List Int) (k : Nat) : List ((Int × Int) × Bool) := (List.range k).map fun i : Nat => (((i : Int), zs.getD i 0), true)
theorem mk_len (zs : List Int) (k : Nat) : (mk zs k).length = k := by simp [mk]
theorem mk_succ (zs : List Int) (k : Nat) : mk zs (k + 1) = mk zs k ++ [(((k : Int), zs.getD k 0), true)] := by simp [mk, List.range_succ]
theorem mk_take (zs : List Int) (n k : Nat) (h : k ≤ n) : (mk zs n).take k = mk zs k := by
  simp only [mk, ← List.map_take, List.take_range, Nat.min_eq_left h]
/-- What the loop over them hands out. -/
def got (zs : List Int) (k : Nat) : List (Nat × (Int × Int)) := (List.range k).map fun i : Nat => (i, ((i : Int), zs.getD i 0))
theorem got_len (zs : List Int) (k : Nat) : (got zs k).length = k := by simp [got]
theorem items_mk (zs : List Int) : ∀ (n k : Nat), k ≤ n → items ((mk zs n).take k) = got zs k
  | n, 0, _ => by simp [items, itemsFrom, got]
  | n, k + 1, h => by
    have hk : (mk zs n)[k]? = some (((k : Int), zs.getD k 0), true) := by simp [mk, show k < n by omega]
    rw [items_take_yes hk, items_mk zs n k (by omega)]
    simp [got, List.range_succ]
/-- All that came is what should have come. -/
def good (zs : List Int) (pre : List (Nat × (Int × Int))) : Prop := pre = got zs pre.length
theorem good_snoc {zs : List Int} {pre : List (Nat × (Int × Int))} (h : good zs pre) : good zs (pre ++ [(pre.length, ((pre.length : Int), zs.getD pre.length 0))]) := by
  unfold good at h ⊢
  rw [List.length_append, List.length_singleton]
  conv => lhs; rw [h]
  simp [got, List.range_succ]
theorem good_last {zs : List Int} {pre : List (Nat × (Int × Int))} {x : Nat × (Int × Int)} (h : good zs (pre ++ [x])) : x = (pre.length, ((pre.length : Int), zs.getD pre.length 0)) := by
  unfold good at h
  rw [List.length_append, List.length_singleton] at h
  have h1 : (pre ++ [x])[pre.length]? = (got zs (pre.length + 1))[pre.length]? := by rw [← h]
  simpa [got] using h1
theorem good_got (zs : List Int) (k : Nat) : good zs (got zs k) := by unfold good; rw [got_len]

/-- The boxes of the law's variables. -/
structure LEnv (w0 : World) (sl : Value) (nn : Int) (t : Bool) (w : World) : Prop where
  l : Boxed w w0.heap.size 39 sl
  n : Boxed w (w0.heap.size + 1) 5 (.int .u8 nn)
  r : Boxed w (w0.heap.size + 2) 4 (.bool t)
  b : Below w0.heap.size w0 w
section
variable {w0 w w' : World} {sl : Value} {nn : Int} {t : Bool}
theorem LEnv.turned {X : List Nat} (h : LEnv w0 sl nn t w) (ht : Turned X w w') (hx : ∀ x ∈ X, w0.heap.size + 3 ≤ x) : LEnv w0 sl nn t w' :=
  ⟨Boxed.turned h.l ht (fun hm => by have := hx _ hm; omega), Boxed.turned h.n ht (fun hm => by have := hx _ hm; omega), Boxed.turned h.r ht (fun hm => by have := hx _ hm; omega),
    h.b.trans (ht.below (fun k hk => by have := hx k hk; omega) h.b.size)⟩
theorem LEnv.abides {row : Option Nat} {B : Nat} (h : LEnv w0 sl nn t w) (hg : w.grownBy w' row) (hr : ∀ r, row = some r → B ≤ r ∧ ∃ o : Obj, w.heap[r]? = some o ∧ o.isCells = false) (hB : w0.heap.size ≤ B) : LEnv w0 sl nn t w' := by
  have hr' : ∀ r, row = some r → ∃ o : Obj, w.heap[r]? = some o ∧ o.isCells = false := fun r e => (hr r e).2
  exact ⟨block_abides h.l hg hr', block_abides h.n hg hr', block_abides h.r hg hr', h.b.grown hg h.b.size (fun k e => Nat.le_trans hB (hr k e).1)⟩
theorem LEnv.new (w : World) (sl : Value) (nn : Int) : LEnv w sl nn false (((w.alloc (.cells #[sl] 39)).alloc (.cells #[.int .u8 nn] 5)).alloc (.cells #[.bool false] 4)) := by
  have h2 := Boxed.new (w.alloc (.cells #[sl] 39)) 5 (.int .u8 nn)
  have h3 := Boxed.new ((w.alloc (.cells #[sl] 39)).alloc (.cells #[.int .u8 nn] 5)) 4 (.bool false)
  simp only [World.size_alloc] at h2 h3
  exact ⟨((Boxed.new w _ _).alloc _).alloc _, h2.alloc _, h3, (((Below.refl _ w).alloc (Nat.le_refl _) _).alloc (by simp) _).alloc (by simp; omega) _⟩
end
theorem ArAt.abides {α : Type} {tA tS : TypeId} {enc : α → List Value} {k : Nat} {w w' : World} {b : Nat} {X : List Nat} {m : Int} {S : List (α × Bool)} {F : List Nat} {row : Option Nat} {B : Nat}
    (h : ArAt tA tS enc k w b X m S F) (hg : w.grownBy w' row) (hr : ∀ r, row = some r → B ≤ r ∧ ∃ o : Obj, w.heap[r]? = some o ∧ o.isCells = false) : ArAt tA tS enc k w' b X m S F := by
  have hr' : ∀ r, row = some r → ∃ o : Obj, w.heap[r]? = some o ∧ o.isCells = false := fun r e => (hr r e).2
  obtain ⟨sv, fv, h1, h2, h3, h4⟩ := h
  exact ⟨sv, fv, block_abides h1 hg hr', row_abides h2 hg hr', row_abides h3 hg hr', h4⟩

/-- The law's memory while it goes over the values: its boxes, the arena, a count. -/
structure REnv (w0 : World) (sl : Value) (nn : Int) (A : Nat) (X : List Nat) (zs : List Int) (bk q : Nat) (w : World) : Prop where
  e : LEnv w0 sl nn false w
  a : Pr.ArP w A X 100 (mk zs zs.length) []
  k : Boxed w bk 3 (.int .i64 (q : Int))
  x3 : ∀ x ∈ X, w0.heap.size + 3 ≤ x
  xk : ∀ x ∈ X, x < bk
  k3 : w0.heap.size + 3 ≤ bk
section
variable {w0 w w' : World} {sl : Value} {nn : Int} {A bk q : Nat} {X : List Nat} {zs : List Int}
theorem REnv.abides {row : Option Nat} {B : Nat} (h : REnv w0 sl nn A X zs bk q w) (hg : w.grownBy w' row) (hr : ∀ r, row = some r → B ≤ r ∧ ∃ o : Obj, w.heap[r]? = some o ∧ o.isCells = false) (hB : w0.heap.size ≤ B) : REnv w0 sl nn A X zs bk q w' :=
  ⟨h.e.abides hg hr hB, ArAt.abides h.a hg hr, block_abides h.k hg (fun r e => (hr r e).2), h.x3, h.xk, h.k3⟩
theorem REnv.turned (h : REnv w0 sl nn A X zs bk q w) (ht : Turned [] w w') : REnv w0 sl nn A X zs bk q w' :=
  ⟨h.e.turned ht (by simp), h.a.keep ht (by simp), Boxed.turned h.k ht (by simp), h.x3, h.xk, h.k3⟩
theorem REnv.drewN (h : REnv w0 sl nn A X zs bk q w) (n : Nat) : REnv w0 sl nn A X zs bk q (w.drewN n) := h.turned ((Turned.refl _ _).drewN n)
theorem REnv.setK (h : REnv w0 sl nn A X zs bk q w) (q' : Nat) : REnv w0 sl nn A X zs bk q' (w.setCell ⟨bk, 0, none⟩ (.int .i64 (q' : Int))) := by
  have ht : Turned [bk] w (w.setCell ⟨bk, 0, none⟩ (.int .i64 (q' : Int))) := (Turned.refl _ w).setCell (.inl (by simp)) _
  have h3 := h.k3
  exact ⟨h.e.turned ht (by intro x hx; simp at hx; omega), h.a.keep ht (by intro x hx; have := h.xk x hx; simp; omega), h.k.set _, h.x3, h.xk, h.k3⟩
/-- A store into another block of the law's own. -/
theorem REnv.setO (h : REnv w0 sl nn A X zs bk q w) {p : Nat} (hp : bk < p) (u : Value) : REnv w0 sl nn A X zs bk q (w.setCell ⟨p, 0, none⟩ u) := by
  have ht : Turned [p] w (w.setCell ⟨p, 0, none⟩ u) := (Turned.refl _ w).setCell (.inl (by simp)) _
  have h3 := h.k3
  exact ⟨h.e.turned ht (by intro x hx; simp at hx; omega), h.a.keep ht (by intro x hx; have := h.xk x hx; simp; omega), Boxed.turned h.k ht (by simp; omega), h.x3, h.xk, h.k3⟩
end
end Go.Proofs.Ytiicbmgompnehaa
