/-
  What is told of cells abides the steps of a loop over a function; a region with calls in a round; a bool that is answered out of a cell. No program.
-/
import Derived.Test.YtmcfjlkjijaflaaChecked
import Derived.Test.YtmcfjlkjijaflaaHbRange
import Derived.Test.YtmcfjlkjijaflaaArRound
import Derived.Test.YtmcfjlkjijaflaaLst
import Derived.Deep.RegionHeld3
import Derived.Shelf.Abstract
namespace Go.Proofs.Ytmcfjlkjijaflaa
open Go.RowKit

theorem cell1 {w : World} {b : Nat} {x : Value} {t : TypeId} (h : w.heap[b]? = some (.cells #[x] t (0, 0))) : w.cell? ⟨b, 0, none⟩ = some x := by simp [World.cell?, h]
/-- What lay in w lies so still. -/
theorem Turned.mild {X Y : List Nat} {N : Nat} {w A B : World} (h : Turned Y w A) (m : Mild X N A B) (hN : w.heap.size ≤ N) (hX : ∀ k ∈ X, w.heap.size ≤ k) : Turned Y w B :=
  ⟨m.os.trans h.os, m.tape.trans h.tape, m.output.trans h.output, Nat.le_trans h.size m.size, fun k hk hy => by
    have h1 := h.block k hk hy
    have h2 : A.heap[k]? = some (A.heap[k]'(by have := h.size; omega)) := Array.getElem?_eq_getElem _
    rw [m.same k _ h2 (fun hx => by have := hX k hx; omega) (.inl (by omega)), ← h2, h1]⟩
theorem Mild.cells {X : List Nat} {N k : Nat} {A B : World} {cs : Array Value} {t : TypeId} {f : Nat × Nat} (m : Mild X N A B) (h : A.heap[k]? = some (.cells cs t f)) (hx : k ∉ X) : B.heap[k]? = some (.cells cs t f) := m.same k _ h hx (.inr rfl)

theorem Turned.trans' {X Y : List Nat} {a b c : World} (h : Turned X a b) (g : Turned Y b c) (hs : ∀ k ∈ Y, a.heap.size ≤ k) : Turned X a c := h.trans g (fun k hk => .inr (hs k hk))
theorem Turned.put {X : List Nat} {a b : World} (h : Turned X a b) {l : Nat} (hl : a.heap.size ≤ l) (o : Obj) : Turned X a (b.putObj l o) :=
  h.grown (grownBy_putObj' b l o) (fun k e => .inr (by cases e; exact hl))
theorem bool_result {fn : Func} {p : Tmp} (hf : fn.results = #[.cell p 4]) {tmps : Array Value} {w : World} {B : Nat} {v : Value} (hp : tmps.getD p undef = .pointer (some ⟨B, 0, none⟩)) (h : w.heap[B]? = some (.cells #[v] 4 (0, 0))) :
    (results fn tmps).run Try.prog w = .ok v w := by
  have h0 := cell1 h
  have hp' : tmps[p]?.getD undef = .pointer (some ⟨B, 0, none⟩) := by simpa using hp
  simp [results, hf, hp', loadVar, go_sem, h0, asAddr, Sem.run_bind, Result.andThen]
/-- A REGION THAT DRAWS ITS ORDER, LOADS NEXT TO CALLS, IN A ROUND. -/
theorem wpRound_held {P : Program} {id r n : Nat} {Q : Exit → Act → World → Prop} {a : Act} {w : World} {l : List Oper} (S : World → Prop) (hnd : noDefer l = true) (hQ : ¬ LetsOut Q) (hm : P.follows .mixedOrders = true) (hS : S w.drew)
    (h : S w.drew → wpAnyH P .any l.toArray Q S l.toArray.size (Array.replicate l.toArray.size false) a w.drew) : (Code.region id l.toArray true).wpIn (Fence.wide.inRound r) n P Q a w :=
  wpIn_region_any hm (wpAnyIn_of_wpAny (by simpa using hnd) hQ _ _ _ _ (wpAny_of_held _ _ _ _ (h hS)))
/-- What is told of cells abides. -/
theorem LAt.mild {α : Type} {tS tE : TypeId} {k : Nat} {enc : α → List Value} {cs : Value → Array Value} {A B : World} {b : Nat} {Z X : List Nat} {N : Nat} {L : List α} (h : LAt tS tE k enc cs A b Z L) (m : Mild X N A B) (hd : ∀ k ∈ Z, k ∉ X) : LAt tS tE k enc cs B b Z L := by
  obtain ⟨v, h1, h2, rfl⟩ := h
  refine ⟨v, m.cells h1 (hd _ (by simp)), ownsRow_same h2 (fun k hk _ => ?_), rfl⟩
  obtain ⟨cur, hc⟩ := ownsRow_type h2 k hk
  rw [m.cells hc (hd k (List.mem_cons_of_mem _ hk)), hc]
theorem LAt.isCells {α : Type} {tS tE : TypeId} {k : Nat} {enc : α → List Value} {cs : Value → Array Value} {A : World} {b : Nat} {Z : List Nat} {L : List α} (h : LAt tS tE k enc cs A b Z L) : ∀ k ∈ Z, ∃ c t, A.heap[k]? = some (.cells c t (0, 0)) := by
  obtain ⟨v, h1, h2, rfl⟩ := h
  intro k hk
  rcases List.mem_cons.1 hk with rfl | hk
  · exact ⟨_, _, h1⟩
  · obtain ⟨cur, hc⟩ := ownsRow_type h2 k hk
    exact ⟨cur, _, hc⟩
theorem LAt.kinds {α : Type} {tS tE : TypeId} {k : Nat} {enc : α → List Value} {cs : Value → Array Value} {A : World} {b : Nat} {Z : List Nat} {L : List α} (h : LAt tS tE k enc cs A b Z L) : ∀ k ∈ Z, (∃ c, A.heap[k]? = some (.cells c tS (0, 0))) ∨ (∃ c, A.heap[k]? = some (.cells c tE (0, 0))) := by
  obtain ⟨v, h1, h2, rfl⟩ := h
  intro k hk
  rcases List.mem_cons.1 hk with rfl | hk
  · exact .inl ⟨_, h1⟩
  · obtain ⟨cur, hc⟩ := ownsRow_type h2 k hk
    exact .inr ⟨cur, hc⟩
theorem keepsOthers_turned {Z : List Nat} {A B : World} (h : Turned Z A B) (hz : ∀ k ∈ Z, ∃ c t, A.heap[k]? = some (.cells c t (0, 0))) : KeepsOthers A B :=
  ⟨h.size, fun k o hk ho => (h.block k (Array.getElem?_eq_some_iff.1 hk).1 (fun hx => by
    obtain ⟨c, t, hc⟩ := hz k hx
    rw [hk] at hc
    cases hc
    cases ho)).trans hk⟩
theorem Turned.mild2 {X Z : List Nat} {N : Nat} {w A B : World} (h : Turned Z w A) (m : Mild X N A B) (hN : w.heap.size ≤ N) (hX : ∀ k ∈ X, k ∈ Z) : Turned Z w B :=
  ⟨m.os.trans h.os, m.tape.trans h.tape, m.output.trans h.output, Nat.le_trans h.size m.size, fun k hk hy => by
    have h1 := h.block k hk hy
    have h2 : A.heap[k]? = some (A.heap[k]'(by have := h.size; omega)) := Array.getElem?_eq_getElem _
    rw [m.same k _ h2 (fun hx => hy (hX k hx)) (.inl (by omega)), ← h2, h1]⟩
end Go.Proofs.Ytmcfjlkjijaflaa
