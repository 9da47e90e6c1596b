/-
  What is taken out by its ticket, and what comes off, of numbered values.
-/
import Derived.Test.YtnoiifnknkakoaaFfOrd
import Derived.Test.YtnoiifnknkakoaaFqCalls
import Derived.Test.YtnoiifnknkakoaaMild
namespace Go.Proofs.Ytnoiifnknkakoaa
open Go.RowKit

theorem tick_drop {F : Nat → Int} {n e j : Nat} (hj : j < n) (h : j % e = 0) :
    tkB (tick F (leftI n e j)) (atI (tick F (leftI n e j)) ((j : Int) + 1)) = true ∧ tkV (tick F (leftI n e j)) (atI (tick F (leftI n e j)) ((j : Int) + 1)) = F j ∧ tkL (tick F (leftI n e j)) (atI (tick F (leftI n e j)) ((j : Int) + 1)) = tick F (leftI n e (j + 1)) := by
  obtain ⟨p, hp, h1, h2⟩ := leftI_take hj h
  have hl : p < (tick F (leftI n e j)).length := by rw [tick_len]; exact hp
  have hat : atI (tick F (leftI n e j)) ((j : Int) + 1) = (p : Int) := by
    unfold atI
    refine place_some hl ?_ (fun q hq hqp => ?_)
    · rw [tick_at hp, h1]
      simp
    · have hq' : q < (leftI n e j).length := by rw [tick_len] at hq; exact hq
      rw [tick_at hq']
      have hne := List.pairwise_iff_getElem.1 (leftI_nodup n e j) q p hq' hp hqp
      rw [h1] at hne
      simp
      omega
  have hb : tkB (tick F (leftI n e j)) (p : Int) = true := by
    simp [tkB]
    omega
  rw [hat]
  refine ⟨hb, ?_, ?_⟩
  · rw [tkV, if_pos hb, Int.toNat_natCast, List.getD_eq_getElem?_getD, List.getElem?_eq_getElem hl, tick_at hp, h1]
    rfl
  · rw [tkL, if_pos hb, Int.toNat_natCast, tick_erase, h2]
theorem tick_pop {F : Nat → Int} {n e k : Nat} (hk : k < n) (h : k % e ≠ 0) :
    tkB (tick F (popI n e k)) 0 = true ∧ tkV (tick F (popI n e k)) 0 = F k ∧ tkL (tick F (popI n e k)) 0 = tick F (popI n e (k + 1)) := by
  rw [popI_next h hk, tick_cons]
  have hb : tkB (((k : Int) + 1, F k) :: tick F (popI n e (k + 1))) 0 = true := by simp [tkB]
  refine ⟨hb, ?_, ?_⟩
  · rw [tkV, if_pos hb]
    simp
  · rw [tkL, if_pos hb]
    simp

/-- The law's own boxes: how many are gone over, the answer. -/
structure OrB (w W : World) (mo : Int) : Prop where
  turned : Turned [] w W
  mb : W.heap[w.heap.size]? = some (.cells #[.int .u8 mo] 5 (0, 0))
  r : W.heap[w.heap.size + 1]? = some (.cells #[.bool false] 4 (0, 0))
section
variable {w W W' : World} {mo : Int}
theorem OrB.step {X : List Nat} (h : OrB w W mo) (t : Turned X W W') (hX : ∀ k ∈ X, w.heap.size + 2 ≤ k) : OrB w W' mo :=
  ⟨h.turned.trans' t (fun k hk => by have := hX k hk; omega), t.same h.mb (fun hx => by have := hX _ hx; omega), t.same h.r (fun hx => by have := hX _ hx; omega)⟩
theorem OrB.later (h : OrB w W mo) (t : Turned [] W W') : OrB w W' mo := h.step t (by simp)
theorem OrB.mild {N : Nat} (h : OrB w W mo) (m : Mild [] N W W') (hN : w.heap.size ≤ N) : OrB w W' mo :=
  ⟨h.turned.mild m hN (by simp), m.cells h.mb (by simp), m.cells h.r (by simp)⟩
theorem OrB.size (h : OrB w W mo) : w.heap.size + 2 ≤ W.heap.size := by have := lt_of_block h.r; omega
theorem OrB.new (w : World) (mo : Int) : OrB w ((w.alloc (.cells #[.int .u8 mo] 5)).alloc (.cells #[.bool false] 4)) mo := by
  refine ⟨((Turned.refl [] w).alloc _).alloc _, (Below.heap_alloc _ _ _ (by simp)).trans (heap_alloc_new w _), ?_⟩
  have := heap_alloc_new (w.alloc (.cells #[.int .u8 mo] 5)) (.cells #[.bool false] 4)
  simp only [World.size_alloc] at this
  exact this
end
/-- The law's boxes, its queue (new), what stands in it. -/
structure OrQ (w W : World) (mo : Int) (b : Nat) (X : List Nat) (l : Int) (L : List Ft) : Prop where
  e : OrB w W mo
  q : QI W b X 100 l L
  x : ∀ k ∈ X, w.heap.size + 2 ≤ k
section
variable {w W W' : World} {mo : Int} {b : Nat} {X : List Nat} {l : Int} {L : List Ft}
theorem OrQ.later (h : OrQ w W mo b X l L) (t : Turned [] W W') : OrQ w W' mo b X l L := ⟨h.e.later t, h.q.keep0 t, h.x⟩
theorem OrQ.step (h : OrQ w W mo b X l L) {X' : List Nat} {l' : Int} {L' : List Ft} (q' : QI W' b X' 100 l' L') (t : Turned X W W') (n : Newer X W.heap.size X') : OrQ w W' mo b X' l' L' :=
  ⟨h.e.step t h.x, q', fun k hk => by
    rcases n k hk with g | g
    · exact h.x k g
    · have := h.e.size; omega⟩
theorem QI.mild {N : Nat} {X' : List Nat} (h : QI W b X 100 l L) (m : Mild X' N W W') (hN : ∀ k ∈ X, k < N) (hd : ∀ k ∈ X, k ∉ X') : QI W' b X 100 l L := by
  have hb : ∀ k ∈ X, W'.heap[k]? = W.heap[k]? := fun k hk => by
    have hlt := h.lt k hk
    have h2 : W.heap[k]? = some (W.heap[k]'hlt) := Array.getElem?_eq_getElem _
    rw [m.same k _ h2 (hd k hk) (.inl (hN k hk)), h2]
  obtain ⟨P, ⟨S, F, f, fst, lst, ⟨ab, gm, Y, D, h1, ⟨sv, fv, a1, a2, a3, rfl⟩, h3, h4, h5, rfl⟩, h6⟩, h7⟩ := h
  refine ⟨P, ⟨S, F, f, fst, lst, ⟨ab, gm, _, D, (hb _ (by simp)).trans h1, ⟨sv, fv, (hb _ (by simp)).trans a1, ownsRow_same a2 (fun k hk _ => hb k ?_), ownsRow_same a3 (fun k hk _ => hb k ?_), rfl⟩, ownsMap_same h3 (hb gm (by simp)), h4, h5, rfl⟩, h6⟩, h7⟩
  · simp [hk]
  · simp [hk]
theorem OrQ.mild {N : Nat} (h : OrQ w W mo b X l L) (m : Mild [] N W W') (hN : w.heap.size ≤ N) (hX : ∀ k ∈ X, k < N) : OrQ w W' mo b X l L :=
  ⟨h.e.mild m hN, h.q.mild m hX (by simp), h.x⟩
theorem OrQ.set (h : OrQ w W mo b X l L) {C : Nat} (hC : w.heap.size + 2 ≤ C) (hX : C ∉ X) (i : Nat) (v : Value) : OrQ w (W.setCell ⟨C, i, none⟩ v) mo b X l L := by
  have t : Turned [C] W (W.setCell ⟨C, i, none⟩ v) := (Turned.refl _ W).setCell (.inl (by simp)) _
  exact ⟨h.e.step t (by intro k hk; simp at hk; omega), h.q.keep t (fun k hk hx => by simp at hx; subst hx; exact hX hk), h.x⟩
end
end Go.Proofs.Ytnoiifnknkakoaa
