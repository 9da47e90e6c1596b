/-
  What Words answers; a row of words that grows.
-/
import Derived.Test.YtmcfjlkjijaflaaDoorGR
import Derived.Test.YtmcfjlkjijaflaaDoorGA
namespace Go.Proofs.YtmcfjlkjijaflaaDoor
open Go.RowKit

/-- The words so far: a row; the program's box. -/
structure WI (w wr : World) (v : Value) (ws : List Wd) (pv : Array Value) : Prop where
  row : WRow w.heap.size wr v ws
  bel : Below w.heap.size w wr
  box : wr.heap[w.heap.size]? = some (.cells pv 24 (0, 0))
  siz : w.heap.size < wr.heap.size
theorem WI.more {w wr wr' : World} {v : Value} {ws : List Wd} {pv : Array Value} (h : WI w wr v ws pv) (hb : Below wr.heap.size wr wr') : WI w wr' v ws pv :=
  ⟨row_below h.row hb, h.bel.trans (hb.mono (Nat.le_of_lt h.siz)), (hb.block _ h.siz).trans h.box, Nat.lt_of_lt_of_le h.siz hb.size⟩
theorem WI.kept {w wx w4 : World} {v : Value} {ws : List Wd} {pv : Array Value} (h : WI w wx v ws pv) (hg : wx.grownBy w4 v.ownBlock) {k : Nat} {cs : Array Value} {t : TypeId}
    (hk : wx.heap[k]? = some (.cells cs t (0, 0))) (ht : t ≠ 74) : w4.heap[k]? = some (.cells cs t (0, 0)) :=
  (hg.block k (lt_of_block hk) (block_off hk h.row ht)).trans hk
theorem WI.push {w wx w4 : World} {v v' : Value} {ws : List Wd} {x : Wd} {pv : Array Value} (h : WI w wx v ws pv)
    (hown : w4.ownsRow w.heap.size 74 4 v' (ws.length + 1) (wdsC ws ++ wdC x)) (hg : wx.grownBy w4 v.ownBlock) : WI w w4 v' (ws ++ [x]) pv := by
  have hb : Below w.heap.size wx w4 := app_below (Below.refl _ _) (Nat.le_of_lt h.siz) (Nat.le_refl _) h.row hg
  refine ⟨?_, h.bel.trans hb, h.kept hg h.box (by decide), Nat.lt_of_lt_of_le h.siz hb.size⟩
  unfold WRow
  rw [wdsC_snoc, List.length_append, List.length_singleton]
  exact hown
theorem first_row (w1 : World) (base : Nat) (hb : base ≤ w1.heap.size) (a b c d : Value) (x : Wd) (h : wdC x = [a, b, c, d]) :
    WRow base (w1.alloc (.cells #[a, b, c, d] 74)) (.slice (some ⟨w1.heap.size, 0, none⟩) 1 1) [x] := by
  refine ⟨by rw [wdsC_len], .inr ⟨_, 1, _, rfl, hb, heap_alloc_new _ _, Nat.le_refl _, by decide, rfl, ?_⟩⟩
  simp only [wdsC, List.flatMap_cons, List.flatMap_nil, List.append_nil, h]
  rfl
theorem WI.first (w : World) (x : Wd) (pv : Array Value) (a b c d : Value) (h : wdC x = [a, b, c, d]) :
    WI w ((w.alloc (.cells pv 24)).alloc (.cells #[a, b, c, d] 74)) (.slice (some ⟨w.heap.size + 1, 0, none⟩) 1 1) [x] pv := by
  have hs : (w.alloc (.cells pv 24)).heap.size = w.heap.size + 1 := by simp
  refine ⟨?_, ((Below.refl _ w).alloc (Nat.le_refl _) _).alloc (by simp) _, (Below.heap_alloc _ _ _ (by simp)).trans (heap_alloc_new w _), by simp; omega⟩
  rw [← hs]
  exact first_row _ _ (by simp) a b c d x h
theorem word_ones (a : Int) (t : ByteArray) (c d : Int) : ∀ u ∈ [Value.int .i64 a, .string t, .int .i64 c, .int .i64 d], u.oneCell' = true := by
  intro u hu
  simp only [List.mem_cons, List.not_mem_nil, or_false] at hu
  rcases hu with rfl | rfl | rfl | rfl <;> rfl
theorem word_at {W : World} {g : Nat} (hg : W.heap.size = g) (a b c d : Value) (t : TypeId) : ∀ (j : Nat) (u : Value), [a, b, c, d][j]? = some u → (W.alloc (.cells #[a, b, c, d] t)).cell? ((⟨g, 0, none⟩ : Addr).add j) = some u := by
  subst hg
  exact word_new W a b c d t
/-- What Words answers. -/
def WordsP (ws : List Wd) (w : World) (e : Ending) (w' : World) : Prop := ∃ v, e = .returned v ∧ WRow w.heap.size w' v ws ∧ Below w.heap.size w w'
def headR (f : Bool) : List Wd := (1, progB, 0, 0) :: ((if f then [(1, foreverB, 0, 0)] else []) ++ [(3, [123], 0, 0)])
theorem words_head (f : Bool) (L : List Opn) : wordsR (f, L) = headR f ++ L.flatMap opW ++ [(3, [125], 0, 0)] := by
  cases f <;> simp [wordsR, headR]
theorem take_next {L : List Opn} {i : Nat} (h : i < L.length) (pre : List Wd) : pre ++ (L.take (i + 1)).flatMap opW = pre ++ (L.take i).flatMap opW ++ opW L[i] := by
  have e : L.take (i + 1) = L.take i ++ [L[i]] := (List.take_append_getElem h).symm
  have e1 : [L[i]].flatMap opW = opW L[i] := by simp only [List.flatMap_cons, List.flatMap_nil, List.append_nil]
  rw [e, List.flatMap_append, e1, ← List.append_assoc]
end Go.Proofs.YtmcfjlkjijaflaaDoor
