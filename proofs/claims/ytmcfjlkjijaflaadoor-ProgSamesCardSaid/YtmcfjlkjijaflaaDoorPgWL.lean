/-
  What the program's Words leans on: the list in its box, and how it grows.
-/
import Derived.Test.YtmcfjlkjijaflaaDoorPgMay
import Derived.Test.YtmcfjlkjijaflaaDoorPgOpW
import Derived.Test.YtmcfjlkjijaflaaDoorGA
import Derived.Test.YtmcfjlkjijaflaaDoorPgLen
namespace Go.Proofs.YtmcfjlkjijaflaaDoor
open Go.RowKit

/-- The list of words so far, in its box; the program's box. -/
structure WLI (w wr : World) (K : Nat) (pv : Array Value) (v : Value) (ws : List Wd) : Prop where
  row : WRow w.heap.size wr v ws
  t : Turned [] w wr
  box : wr.heap[w.heap.size]? = some (.cells pv 24 (0, 0))
  lst : wr.heap[K]? = some (.cells #[v] 31 (0, 0))
  kne : w.heap.size < K
theorem WLI.more {w wr wr' : World} {K : Nat} {pv : Array Value} {v : Value} {ws : List Wd} (h : WLI w wr K pv v ws) (hb : Below wr.heap.size wr wr') : WLI w wr' K pv v ws :=
  ⟨row_below h.row hb, h.t.trans (turned_below0 hb) (Newer.refl _ _), (hb.block _ (lt_of_block h.box)).trans h.box, (hb.block _ (lt_of_block h.lst)).trans h.lst, h.kne⟩
theorem WLI.mild {w A B : World} {K N : Nat} {pv : Array Value} {v : Value} {ws : List Wd} (h : WLI w A K pv v ws) (m : Mild [] N A B) (hN : w.heap.size ≤ N) : WLI w B K pv v ws := by
  refine ⟨ownsRow_same h.row (fun k hk _ => ?_), h.t.mild m hN (by simp), m.cells h.box (by simp), m.cells h.lst (by simp), h.kne⟩
  obtain ⟨cur, hc⟩ := ownsRow_type h.row k hk
  rw [m.cells hc (by simp), hc]
theorem row_up {w : World} {base : Nat} {e : TypeId} {size : Nat} {v : Value} {n : Nat} {xs : List Value} (h : w.ownsRow 0 e size v n xs) (hb : ∀ g ∈ v.ownBlock.toList, base ≤ g) : w.ownsRow base e size v n xs := by
  refine ⟨h.1, ?_⟩
  rcases h.2 with h2 | ⟨g, cap, cur, rfl, _, rest⟩
  · exact .inl h2
  · exact .inr ⟨g, cap, cur, rfl, hb g (by simp [Value.ownBlock]), rest⟩
/-- Behind an append: what of the elder blocks is left. -/
theorem WLI.grown {w wx w4 : World} {K : Nat} {pv : Array Value} {v : Value} {ws : List Wd} (h : WLI w wx K pv v ws) (hg : wx.grownBy w4 v.ownBlock) :
    w4.heap[w.heap.size]? = some (.cells pv 24 (0, 0)) ∧ w4.heap[K]? = some (.cells #[v] 31 (0, 0)) ∧ Turned [] w w4 :=
  ⟨(hg.block _ (lt_of_block h.box) (block_off h.box h.row (by decide))).trans h.box, (hg.block _ (lt_of_block h.lst) (block_off h.lst h.row (by decide))).trans h.lst,
    h.t.grown hg (fun k hk => .inr ((h.row.lt k hk).1))⟩
theorem WLI.push {w wx w4 : World} {K : Nat} {pv : Array Value} {v v' : Value} {ws xs : List Wd} {m : Nat} (h : WLI w wx K pv v ws) (hm : xs.length = m)
    (hown : w4.ownsRow 0 74 4 v' (ws.length + m) (wdsC ws ++ wdsC xs)) (hg : wx.grownBy w4 v.ownBlock) (hnew : ∀ g ∈ v'.ownBlock.toList, g ∈ v.ownBlock.toList ∨ wx.heap.size ≤ g) : WLI w (w4.setCell ⟨K, 0, none⟩ v') K pv v' (ws ++ xs) := by
  obtain ⟨g1, g2, g3⟩ := h.grown hg
  have hrow : WRow w.heap.size w4 v' (ws ++ xs) := by
    unfold WRow
    rw [List.length_append, hm, wdsC, List.flatMap_append]
    refine row_up hown (fun g hx => ?_)
    rcases hnew g hx with h1 | h1
    · exact (h.row.lt g (by simpa using h1)).1
    · exact Nat.le_trans h.t.size h1
  have hk := h.kne
  have hoff := block_off g2 hrow (by decide)
  refine ⟨ownsRow_same hrow (fun k hk2 _ => Below.heap_setCell _ _ _ _ ?_), g3.setCell (.inr (by show w.heap.size ≤ K; omega)) _, (Below.heap_setCell _ _ _ _ (by show w.heap.size ≠ K; omega)).trans g1, ?_, hk⟩
  · show k ≠ K
    rintro rfl
    exact hoff (by simpa using hk2 : v'.ownBlock = some k).symm
  · rw [heap_setCell_same _ _ _ _ _ _ g2]
    rfl
theorem WLI.start {w w1 w3 : World} {pv : Array Value} {p q r t : Value} {x : Wd} (hx : wdC x = [p, q, r, t]) (h1 : w1.heap[w.heap.size]? = some (.cells pv 24 (0, 0))) (hb : Below w.heap.size w w1) (h3 : Below w1.heap.size w1 w3) :
    WLI w ((w3.alloc (.cells #[p, q, r, t] 74)).alloc (.cells #[.slice (some ⟨w3.heap.size, 0, none⟩) 1 1] 31)) (w3.heap.size + 1) pv (.slice (some ⟨w3.heap.size, 0, none⟩) 1 1) [x] := by
  have hb3 : Below w.heap.size w w3 := hb.trans (h3.mono hb.size)
  have hl := lt_of_block h1
  have hs := h3.size
  have hz := heap_alloc_new (w3.alloc (.cells #[p, q, r, t] 74)) (.cells #[.slice (some ⟨w3.heap.size, 0, none⟩) 1 1] 31)
  rw [World.size_alloc] at hz
  refine ⟨(first_row w3 _ hb3.size _ _ _ _ _ hx).alloc _, turned_below0 ((hb3.alloc hb3.size _).alloc (by simp; omega) _), ?_, hz, by omega⟩
  exact (Below.heap_alloc _ _ _ (by simp; omega)).trans ((Below.heap_alloc _ _ _ (by omega)).trans ((h3.block _ hl).trans h1))
/-- .. in the loop over the ops: where its row may lie. -/
structure WLJ (w W : World) (K N n₀ : Nat) (pv : Array Value) (v : Value) (ws : List Wd) : Prop where
  i : WLI w W K pv v ws
  g : ∀ g ∈ v.ownBlock.toList, g < n₀ ∨ N ≤ g
  z : N ≤ W.heap.size
theorem WLJ.mild {w A B : World} {K N n₀ M : Nat} {pv : Array Value} {v : Value} {ws : List Wd} (h : WLJ w A K N n₀ pv v ws) (m : Mild [] M A B) (hM : w.heap.size ≤ M) : WLJ w B K N n₀ pv v ws :=
  ⟨h.i.mild m hM, h.g, Nat.le_trans h.z m.size⟩
/-- A round: new memory, an append, a store. -/
theorem WLJ.round {w W V1 w4 : World} {K N n₀ : Nat} {pv : Array Value} {v v' : Value} {ws xs : List Wd} {m : Nat} (h : WLJ w W K N n₀ pv v ws) (hK : K < n₀) (hb : Below W.heap.size W V1) (hm : xs.length = m)
    (hown : w4.ownsRow 0 74 4 v' (ws.length + m) (wdsC ws ++ wdsC xs)) (hg : V1.grownBy w4 v.ownBlock) (hnew : ∀ g ∈ v'.ownBlock.toList, g ∈ v.ownBlock.toList ∨ V1.heap.size ≤ g) :
    (∀ B, KeepsFrom B W (w4.setCell ⟨K, 0, none⟩ v')) ∧ (∀ j, n₀ ≤ j → j < N → (w4.setCell ⟨K, 0, none⟩ v').heap[j]? = W.heap[j]?) ∧ WLJ w (w4.setCell ⟨K, 0, none⟩ v') K N n₀ pv v' (ws ++ xs) := by
  have h1 := h.i.more hb
  have hz := h.z
  refine ⟨fun B => (keeps_below hb).trans (((KeepsOthers.of_grownBy hg (fun j o hj ho => ?_)).trans (KeepsOthers.setCell _ _ _)).from _), fun j h0 hN => ?_, h1.push hm hown hg hnew, fun g hx => ?_, ?_⟩
  · obtain ⟨cur, hc⟩ := ownsRow_type h1.row j (by simp [hj])
    rw [hc] at ho
    cases ho
    rfl
  · refine (Below.heap_setCell _ _ _ _ (by show j ≠ K; omega)).trans ((hg.block j (Nat.lt_of_lt_of_le (by omega) hb.size) (fun e => ?_)).trans (hb.block j (by omega)))
    rcases h.g j (by simp [← e]) with hh | hh <;> omega
  · rcases hnew g hx with hh | hh
    · exact h.g g hh
    · have := hb.size
      exact .inr (by omega)
  · have := hb.size
    have := hg.size
    simp [World.setCell]
    omega
theorem wdsC_one (L : List Wd) : ∀ u ∈ wdsC L, u.oneCell' = true := by
  intro u hu
  obtain ⟨x, _, hx⟩ := List.mem_flatMap.1 hu
  simp [wdC] at hx
  rcases hx with rfl | rfl | rfl | rfl <;> rfl
theorem zip_len {L : List Opn} {pre : List (Opn × Nat)} {x : Opn × Nat} (h : (pre ++ [x]) <+: L.zipIdx) : pre.length + 1 ≤ L.length := by
  have := h.length_le
  simpa [List.length_zipIdx] using this
theorem flat_len : ∀ pre : List (Opn × Nat), (pre.flatMap (fun x => opW x.1)).length ≤ pre.length * 4
  | [] => Nat.le_refl _
  | x :: pre => by
    have h1 := flat_len pre
    have h2 := opW_len x.1
    simp only [List.flatMap_cons, List.length_append, List.length_cons] at h1 ⊢
    omega
theorem flat_zip (L : List Opn) : L.zipIdx.flatMap (fun x => opW x.1) = L.flatMap opW := by
  have h : ∀ (L : List Opn) (k : Nat), (L.zipIdx k).flatMap (fun x => opW x.1) = L.flatMap opW := fun L => by
    induction L with
    | nil => intro k; rfl
    | cons x L ih =>
      intro k
      rw [List.zipIdx_cons, List.flatMap_cons, List.flatMap_cons, ih]
  exact h L 0
end Go.Proofs.YtmcfjlkjijaflaaDoor
