/-
  A list of like things, its cells in a row of one's own that a field of a block holds: what appends, removals and stores make of it. No program.
-/
import Derived.Test.YtaohihfhgialnaaArAppAt
import Derived.Laws.AppendOwnNone
import Derived.Maps.AppendAt
import Derived.RegionTactic
namespace Go.Proofs.Ytaohihfhgialnaa
open Go.RowKit

section
variable {α : Type}
/-- The cells of a list. -/
def cellsOf (enc : α → List Value) (L : List α) : List Value := L.flatMap enc
section
variable {enc : α → List Value} {k : Nat}
theorem cellsOf_len (hk : ∀ x, (enc x).length = k) (L : List α) : (cellsOf enc L).length = L.length * k := by
  induction L with
  | nil => simp [cellsOf]
  | cons s L ih =>
    simp only [cellsOf, List.flatMap_cons, List.length_append, List.length_cons, hk] at ih ⊢
    rw [ih, Nat.add_mul]
    omega
theorem cellsOf_append (L M : List α) : cellsOf enc (L ++ M) = cellsOf enc L ++ cellsOf enc M := by simp [cellsOf]
theorem cellsOf_one (x : α) : cellsOf enc [x] = enc x := by simp [cellsOf]
theorem cellsOf_snoc (L : List α) (x : α) : cellsOf enc (L ++ [x]) = cellsOf enc L ++ enc x := by simp [cellsOf]
theorem cellsOf_take (hk : ∀ x, (enc x).length = k) : ∀ (L : List α) (j : Nat), cellsOf enc (L.take j) = (cellsOf enc L).take (j * k)
  | [], j => by simp [cellsOf]
  | s :: L, 0 => by simp [cellsOf]
  | s :: L, j + 1 => by
    have ih := cellsOf_take hk L j
    have e : (j + 1) * k = (enc s).length + j * k := by rw [hk, Nat.add_mul]; omega
    simp only [cellsOf, List.take_succ_cons, List.flatMap_cons] at ih ⊢
    rw [ih, e, List.take_length_add_append]
theorem cellsOf_drop (hk : ∀ x, (enc x).length = k) : ∀ (L : List α) (j : Nat), cellsOf enc (L.drop j) = (cellsOf enc L).drop (j * k)
  | [], j => by simp [cellsOf]
  | s :: L, 0 => by simp [cellsOf]
  | s :: L, j + 1 => by
    have ih := cellsOf_drop hk L j
    have e : (j + 1) * k = (enc s).length + j * k := by rw [hk, Nat.add_mul]; omega
    simp only [cellsOf, List.drop_succ_cons, List.flatMap_cons] at ih ⊢
    rw [ih, e, List.drop_length_add_append]
theorem cellsOf_get (hk : ∀ x, (enc x).length = k) (L : List α) (j i : Nat) (hj : j < L.length) (hi : i < k) : (cellsOf enc L)[j * k + i]? = (enc L[j])[i]? := by
  have h := cellsOf_drop hk L j
  rw [List.drop_eq_getElem_cons hj] at h
  have h2 : ((cellsOf enc L).drop (j * k))[i]? = (enc L[j])[i]? := by
    rw [← h]
    simp only [cellsOf, List.flatMap_cons]
    rw [List.getElem?_append_left (by rw [hk]; exact hi)]
  rw [← h2, List.getElem?_drop]
/-- A cell stored. -/
theorem cellsOf_set (hk : ∀ x, (enc x).length = k) : ∀ (L : List α) (j i : Nat) (x : α) (u : Value) (hj : j < L.length), i < k → enc x = (enc L[j]).set i u → cellsOf enc (L.set j x) = (cellsOf enc L).set (j * k + i) u
  | s :: L, 0, i, x, u, _, hi, he => by
    simp only [List.getElem_cons_zero] at he
    simp only [cellsOf, List.set_cons_zero, List.flatMap_cons, Nat.zero_mul, Nat.zero_add, he]
    rw [List.set_append_left _ _ (by rw [hk]; exact hi)]
  | s :: L, j + 1, i, x, u, hj, hi, he => by
    have ih := cellsOf_set hk L j i x u (by simpa using hj) hi (by simpa using he)
    have e : (j + 1) * k + i = (enc s).length + (j * k + i) := by rw [hk, Nat.add_mul]; omega
    simp only [cellsOf, List.set_cons_succ, List.flatMap_cons] at ih ⊢
    rw [ih, e, List.set_append_right _ _ (by omega)]
    congr 2
    omega
theorem take_drop_erase (L : List α) (i : Nat) : L.take i ++ L.drop (i + 1) = L.eraseIdx i := (List.eraseIdx_eq_take_drop_succ ..).symm
end

/-- Block b, of type tS, holds the cells 'cs v', v a row of one's own with the cells of L (of type tE, k cells each). X: their blocks. -/
def LAt (tS tE : TypeId) (k : Nat) (enc : α → List Value) (cs : Value → Array Value) (w : World) (b : Nat) (X : List Nat) (L : List α) : Prop :=
  ∃ v, w.heap[b]? = some (.cells (cs v) tS (0, 0)) ∧ w.ownsRow 0 tE k v L.length (cellsOf enc L) ∧ X = b :: v.ownBlock.toList

section
variable {tS tE : TypeId} {k : Nat} {enc : α → List Value} {cs : Value → Array Value} {w w' : World} {b : Nat} {X Y : List Nat} {L : List α}
theorem LAt.keep (h : LAt tS tE k enc cs w b X L) (ht : Turned Y w w') (hd : ∀ k ∈ X, k ∉ Y) : LAt tS tE k enc cs w' b X L := by
  obtain ⟨v, h1, h2, rfl⟩ := h
  exact ⟨v, ht.same h1 (hd _ (by simp)), ownsRow_same h2 (fun k hk hl => ht.block k hl (hd k (List.mem_cons_of_mem _ hk))), rfl⟩
theorem LAt.lt (h : LAt tS tE k enc cs w b X L) : ∀ k ∈ X, k < w.heap.size := by
  obtain ⟨v, h1, h2, rfl⟩ := h
  intro k hk
  rcases List.mem_cons.1 hk with rfl | hk
  · exact lt_of_block h1
  · exact ownsRow_lt h2 k hk
theorem LAt.head (h : LAt tS tE k enc cs w b X L) : b ∈ X := by
  obtain ⟨v, h1, h2, rfl⟩ := h
  simp
theorem LAt.drewN (h : LAt tS tE k enc cs w b X L) (n : Nat) : LAt tS tE k enc cs (w.drewN n) b X L := h

/-- The field is turned to another row: with what went ahead. -/
theorem LAt.stored {w1 : World} {v v' : Value} {i : Nat} {M : List α} (hne : tS ≠ tE) (hcs : (cs v).setIfInBounds i v' = cs v')
    (hb : w1.heap[b]? = some (.cells (cs v) tS (0, 0))) (ho : w1.ownsRow 0 tE k v' M.length (cellsOf enc M)) (hX : b ∈ X) (hT : Turned X w w1) (hN : ∀ g ∈ v'.ownBlock.toList, g ∈ X ∨ w.heap.size ≤ g) :
    LAt tS tE k enc cs (w1.setCell ⟨b, i, none⟩ v') b (b :: v'.ownBlock.toList) M ∧ Turned X w (w1.setCell ⟨b, i, none⟩ v') ∧ Newer X w.heap.size (b :: v'.ownBlock.toList) := by
  refine ⟨⟨v', ?_, ownsRow_setCell_other ho (a := ⟨b, i, none⟩) (fun e => block_off hb ho hne e.symm) _, rfl⟩, hT.setCell (.inl hX) _, ?_⟩
  · rw [heap_setCell_same w1 b i _ _ _ hb, hcs]
  · intro j hj
    rcases List.mem_cons.1 hj with rfl | hj
    · exact .inl hX
    · exact hN j hj

/-- Behind an append onto the row: the block; and the field turned to the longer row. -/
theorem LAt.appended {W W2 W1 : World} {v v' : Value} {i : Nat} {M : List α} {n : Nat} {xs : List Value} (hne : tS ≠ tE) (hcs : (cs v).setIfInBounds i v' = cs v')
    (hb : W.heap[b]? = some (.cells (cs v) tS (0, 0))) (ho : W.ownsRow 0 tE k v n xs) (hT2 : Turned [] W W2) (hg : W2.grownBy W1 v.ownBlock)
    (hown : W1.ownsRow 0 tE k v' M.length (cellsOf enc M)) (hnew : ∀ g ∈ v'.ownBlock.toList, g ∈ v.ownBlock.toList ∨ W2.heap.size ≤ g) :
    W1.heap[b]? = some (.cells (cs v) tS (0, 0)) ∧ LAt tS tE k enc cs (W1.setCell ⟨b, i, none⟩ v') b (b :: v'.ownBlock.toList) M ∧ Turned (b :: v.ownBlock.toList) W (W1.setCell ⟨b, i, none⟩ v') ∧
      Newer (b :: v.ownBlock.toList) W.heap.size (b :: v'.ownBlock.toList) := by
  have hb2 := hT2.same hb (by simp)
  have hbl := lt_of_block hb2
  have hb1 : W1.heap[b]? = some (.cells (cs v) tS (0, 0)) := (hg.block b hbl (block_off hb ho hne)).trans hb2
  have hs := hT2.size
  have hT : Turned (b :: v.ownBlock.toList) W W1 := Turned.grown (hT2.mono (fun k hk => by simp at hk)) hg (fun k hk => .inl (List.mem_cons_of_mem _ (by simp [hk])))
  obtain ⟨h1, h2, h3⟩ := LAt.stored (w := W) hne hcs hb1 hown (X := b :: v.ownBlock.toList) (by simp) hT (fun g hg' => by
    rcases hnew g hg' with h | h
    · exact .inl (List.mem_cons_of_mem _ h)
    · exact .inr (by omega))
  exact ⟨hb1, h1, h2, h3⟩

/-- Another field of the block is turned. -/
theorem LAt.field {cs' : Value → Array Value} {i : Nat} {u : Value} (h : LAt tS tE k enc cs w b X L) (hne : tS ≠ tE) (hcs : ∀ v, (cs v).setIfInBounds i u = cs' v) :
    LAt tS tE k enc cs' (w.setCell ⟨b, i, none⟩ u) b X L ∧ Turned X w (w.setCell ⟨b, i, none⟩ u) := by
  obtain ⟨v, h1, h2, rfl⟩ := h
  refine ⟨⟨v, ?_, ownsRow_setCell_other h2 (a := ⟨b, i, none⟩) (fun e => block_off h1 h2 hne e.symm) _, rfl⟩, (Turned.refl _ w).setCell (.inl (by simp)) _⟩
  rw [heap_setCell_same w b i _ _ _ h1, hcs]
/-- A cell of an element is turned. -/
theorem LAt.cellSet {g n cap : Nat} (hk : ∀ x, (enc x).length = k) (hne : tS ≠ tE) (hb : w.heap[b]? = some (.cells (cs (.slice (some ⟨g, 0, none⟩) n cap)) tS (0, 0))) (ho : w.ownsRow 0 tE k (.slice (some ⟨g, 0, none⟩) n cap) L.length (cellsOf enc L))
    {j i : Nat} {x : α} {u : Value} (hj : j < L.length) (hi : i < k) (he : enc x = (enc L[j]).set i u) :
    LAt tS tE k enc cs (w.setCell ⟨g, j * k + i, none⟩ u) b [b, g] (L.set j x) ∧ Turned [b, g] w (w.setCell ⟨g, j * k + i, none⟩ u) := by
  have hbg : b ≠ g := fun h => block_off hb ho hne (by simp [Value.ownBlock, h])
  refine ⟨⟨.slice (some ⟨g, 0, none⟩) n cap, (Below.heap_setCell _ _ _ _ hbg).trans hb, ?_, by simp [Value.ownBlock]⟩, (Turned.refl _ w).setCell (.inl (by simp)) _⟩
  have hn : n = L.length := by
    obtain ⟨_, _, h1, _⟩ := ownsRow_shape ho
    simp at h1
    exact h1.2.1
  subst hn
  have h1 := (ho.stored (j * k + i) u).1
  rw [cellsOf_set hk L j i x u hj hi he, List.length_set]
  exact h1
/-- The cells of an element. -/
theorem row_cells {g n cap : Nat} (hk : ∀ x, (enc x).length = k) (ho : w.ownsRow 0 tE k (.slice (some ⟨g, 0, none⟩) n cap) L.length (cellsOf enc L)) {j : Nat} (hj : j < L.length) :
    ∀ i, i < k → w.cell? ⟨g, j * k + i, none⟩ = (enc L[j])[i]? ∧ w.frozen? ⟨g, j * k + i, none⟩ = false := by
  intro i hi
  have hn : n = L.length := by
    obtain ⟨_, _, h1, _⟩ := ownsRow_shape ho
    simp at h1
    exact h1.2.1
  subst hn
  have hlt : j * k + i < L.length * k := by
    have : (j + 1) * k ≤ L.length * k := Nat.mul_le_mul_right _ hj
    rw [Nat.add_mul] at this
    omega
  exact ⟨by rw [ho.cellAt _ hlt]; exact cellsOf_get hk L j i hj hi, ho.frozenAt _⟩
end
end

section
variable {α : Type} {tE : TypeId} {k : Nat} {enc : α → List Value} {W W' : World} {g n cap : Nat} {L : List α}
/-- The cells of a row's head, of its rest: what 'l[:j]', 'l[j:]' hand an append. -/
theorem cells_take (hk : ∀ x, (enc x).length = k) (h : W.ownsRow 0 tE k (.slice (some ⟨g, 0, none⟩) n cap) n (cellsOf enc L)) (hT : Turned [] W W') (j : Nat) :
    ∀ i u, (cellsOf enc (L.take j))[i]? = some u → W'.cell? ((⟨g, 0, none⟩ : Addr).add i) = some u := by
  intro i u hu
  rw [cellsOf_take hk, List.getElem?_take] at hu
  by_cases hi : i < j * k
  · rw [if_pos hi] at hu
    have h' := ownsRow_same (w' := W') h fun k' _ hl => hT.block k' hl (by simp)
    exact h'.cells (g := g) rfl i u hu
  · rw [if_neg hi] at hu
    cases hu
theorem cells_drop (hk : ∀ x, (enc x).length = k) (h : W.ownsRow 0 tE k (.slice (some ⟨g, 0, none⟩) n cap) n (cellsOf enc L)) (hT : Turned [] W W') (j : Nat) :
    ∀ i u, (cellsOf enc (L.drop j))[i]? = some u → W'.cell? ((⟨g, j * k, none⟩ : Addr).add i) = some u := by
  intro i u hu
  rw [cellsOf_drop hk, List.getElem?_drop] at hu
  have h' := ownsRow_same (w' := W') h fun k' _ hl => hT.block k' hl (by simp)
  have h2 := h'.cells (g := g) rfl _ u hu
  rw [Addr.add_lit] at h2 ⊢
  simpa using h2
/-- 'l[j+1:]' as the walk spells it. -/
theorem cells_tail (hk : ∀ x, (enc x).length = k) (h : W.ownsRow 0 tE k (.slice (some ⟨g, 0, none⟩) n cap) n (cellsOf enc L)) (hT : Turned [] W W') (j : Nat) (hc : L.length ≤ cap) :
    ∀ ad, (if cap = j then (some ⟨g, 0, none⟩ : Option Addr) else some ⟨g, j * k, none⟩) = some ad → ∀ i u, (cellsOf enc (L.drop j))[i]? = some u → W'.cell? (ad.add i) = some u := by
  intro ad had
  by_cases hcc : cap = j
  · rw [List.drop_eq_nil_of_le (by omega)]
    intro i u hu
    simp [cellsOf] at hu
  · rw [if_neg hcc] at had
    cases had
    exact cells_drop hk h hT j
theorem cells_one (h1 : ∀ x, ∀ u ∈ enc x, u.oneCell' = true) (L : List α) : ∀ u ∈ cellsOf enc L, u.oneCell' = true := by
  intro u hu
  obtain ⟨x, _, hx⟩ := List.mem_flatMap.1 hu
  exact h1 x u hx
end

/-- What a walk over the row wants. -/
theorem LAt.view {α : Type} {tS tE : TypeId} {k : Nat} {enc : α → List Value} {cs : Value → Array Value} {w : World} {b : Nat} {X : List Nat} {L : List α} (h : LAt tS tE k enc cs w b X L) :
    ∃ a cap, w.heap[b]? = some (.cells (cs (.slice a L.length cap)) tS (0, 0)) ∧ w.ownsRow 0 tE k (.slice a L.length cap) L.length (cellsOf enc L) ∧ X = b :: (Value.slice a L.length cap).ownBlock.toList ∧ L.length ≤ cap ∧ cap ≤ maxLen ∧
      ∀ j, j < L.length → ∃ g, a = some ⟨g, 0, none⟩ ∧ b ≠ g ∨ tS = tE := by
  obtain ⟨v, h1, h2, h3⟩ := h
  obtain ⟨a, cap, rfl, hc, hm⟩ := ownsRow_shape h2
  refine ⟨a, cap, h1, h2, h3, hc, hm, fun j hj => ?_⟩
  obtain ⟨g, cap', hv, _, _⟩ := ownsRow_pos h2 (by omega)
  simp only [Value.slice.injEq] at hv
  by_cases e : tS = tE
  · exact ⟨g, .inr e⟩
  · exact ⟨g, .inl ⟨hv.1, fun hg => block_off h1 h2 e (by simp [Value.ownBlock, hv.1, hg])⟩⟩

theorem cells2 {w : World} {b : Nat} {x y : Value} {t : TypeId} (h : w.heap[b]? = some (.cells #[x, y] t (0, 0))) :
    w.cell? ⟨b, 0, none⟩ = some x ∧ w.cell? ⟨b, 1, none⟩ = some y ∧ ∀ i, w.frozen? ⟨b, i, none⟩ = false := by
  refine ⟨by simp [World.cell?, h], by simp [World.cell?, h], fun i => frozen_of_row w b i _ t h⟩
section
variable {α : Type}
/-- The place of the first one of a kind; below 0. -/
def placeI (p : α → Bool) (L : List α) : Int := match L.findIdx? p with | some j => j | none => -1
theorem place_none {p : α → Bool} {L : List α} (h : ∀ j (hj : j < L.length), p L[j] = false) : placeI p L = -1 := by
  have : L.findIdx? p = none := by
    rw [List.findIdx?_eq_none_iff]
    intro x hx
    obtain ⟨j, hj, rfl⟩ := List.getElem_of_mem hx
    exact h j hj
  simp [placeI, this]
theorem place_some {p : α → Bool} {L : List α} {k : Nat} (hk : k < L.length) (hp : p L[k] = true) (h : ∀ j (hj : j < L.length), j < k → p L[j] = false) : placeI p L = k := by
  have : L.findIdx? p = some k := by
    rw [List.findIdx?_eq_some_iff_getElem]
    exact ⟨hk, hp, fun j hj => by simpa using h j (by omega) hj⟩
  simp [placeI, this]
theorem place_cases (p : α → Bool) (L : List α) : placeI p L = -1 ∧ (∀ x ∈ L, p x = false) ∨ ∃ k : Nat, ∃ hk : k < L.length, placeI p L = k ∧ p L[k] = true := by
  cases h : L.findIdx? p with
  | none =>
    left
    rw [List.findIdx?_eq_none_iff] at h
    exact ⟨place_none fun j hj => h _ (List.getElem_mem hj), fun x hx => h x hx⟩
  | some k =>
    right
    rw [List.findIdx?_eq_some_iff_getElem] at h
    obtain ⟨hk, h1, h2⟩ := h
    exact ⟨k, hk, place_some hk h1 fun j hj hjk => by simpa using h2 j hjk, h1⟩
theorem place_range (p : α → Bool) (L : List α) : -1 ≤ placeI p L ∧ placeI p L < L.length := by
  rcases place_cases p L with ⟨h, _⟩ | ⟨k, hk, h, _⟩ <;> rw [h] <;> omega
end

/-- An empty row in a new block. -/
theorem ownsRow_empty (w : World) (e : TypeId) (size : Nat) : (w.alloc (.cells #[] e (0, 0))).ownsRow 0 e size (.slice (some ⟨w.heap.size, 0, none⟩) 0 0) 0 [] :=
  ⟨by simp, .inr ⟨w.heap.size, 0, #[], rfl, Nat.zero_le _, heap_alloc_new w _, Nat.le_refl _, by simp [maxLen], by simp, by simp⟩⟩

section
variable {P : Program} (w : World)
/-- 'append(v, news..)', v a row of one's own, WHATEVER IS APPENDED, nothing too: where the longer row lies. -/
theorem run_append_any (t ty e : TypeId) (i : TypeInfo) (z : Value) (size bytes : Nat) (ht : P.underlying t = some (.slice e)) (hi : P.info? e = some i) (hz : i.zero = some z)
    (hsize : i.size = size) (hby : i.bytes = bytes) (hzs : z.cells.size = size) (hsz : 0 < size)
    (v : Value) (n : Nat) (xs : List Value) (hown : w.ownsRow 0 e size v n xs)
    (ao : Option Addr) (m c : Nat) (news : List Value) (hl : news.length = m * size) (hnone : ao = none → m = 0 ∧ c = 0) (hnews : ∀ ad, ao = some ad → ∀ j u, news[j]? = some u → w.cell? (ad.add j) = some u) (h1 : ∀ u ∈ news, u.oneCell' = true)
    (h63 : n + m ≤ maxLen) (hbytes : (n + m) * bytes ≤ 140737488355328) :
    ∃ a' cap' w', (Builtin.append_ #[t, t] ty #[v, .slice ao m c]).run P w = .ok (.slice a' (n + m) cap') w' ∧ w'.ownsRow 0 e size (.slice a' (n + m) cap') (n + m) (xs ++ news) ∧ w.grownBy w' v.ownBlock ∧
      (∀ g ∈ (Value.slice a' (n + m) cap').ownBlock.toList, g ∈ v.ownBlock.toList ∨ w.heap.size ≤ g) := by
  cases hao : ao with
  | none =>
    obtain ⟨rfl, rfl⟩ := hnone hao
    have hn : news = [] := List.eq_nil_of_length_eq_zero (by simpa using hl)
    subst hn
    have hr := run_append_owned_none (P := P) (w := w) 0 t ty e i size ht hi v n xs hown
    obtain ⟨a', cap', rfl, hc1, hc2⟩ := ownsRow_shape hown
    exact ⟨a', cap', w, hr, by simpa using hown, ⟨rfl, rfl, rfl, Nat.le_refl _, fun _ _ _ => rfl⟩, fun g hg => .inl hg⟩
  | some ad =>
    obtain ⟨v', w', hr, h2, h3, _, h5⟩ := run_append_own_at (P := P) w 0 t ty e i z size bytes ht hi hz hsize hby hzs hsz v n xs hown ad m c news hl (hnews ad hao) h1 h63 hbytes (Nat.zero_le _)
    obtain ⟨a', cap', rfl, hc1, hc2⟩ := ownsRow_shape h2
    refine ⟨a', cap', w', hr, h2, h3, fun g hg => ?_⟩
    rcases h5 with h5 | h5
    · exact .inl (by rw [← h5]; exact hg)
    · rw [h5] at hg
      simp at hg
      exact .inr (by omega)

theorem wp_append_any {o : Oper} {a : Act} {K : Act → World → Prop} {Q : Exit → Act → World → Prop} (s x : Operand) (t : TypeId)
    (ho : o.op = .call { callee := .builtin .append, args := #[s, x], argTypes := #[t, t] })
    (e : TypeId) (i : TypeInfo) (z : Value) (size bytes : Nat) (ht : P.underlying t = some (.slice e)) (hi : P.info? e = some i) (hz : i.zero = some z)
    (hsize : i.size = size) (hby : i.bytes = bytes) (hzs : z.cells.size = size) (hsz : 0 < size)
    (v : Value) (n : Nat) (xs : List Value) (hs : a.eval s = v) (hown : w.ownsRow 0 e size v n xs)
    (ao : Option Addr) (m c : Nat) (news : List Value) (hx : a.eval x = .slice ao m c) (hl : news.length = m * size) (hnone : ao = none → m = 0 ∧ c = 0) (hnews : ∀ ad, ao = some ad → ∀ j u, news[j]? = some u → w.cell? (ad.add j) = some u) (h1 : ∀ u ∈ news, u.oneCell' = true)
    (h63 : n + m ≤ maxLen) (hbytes : (n + m) * bytes ≤ 140737488355328)
    (h : ∀ a' cap' w', w'.ownsRow 0 e size (.slice a' (n + m) cap') (n + m) (xs ++ news) → w.grownBy w' v.ownBlock → (∀ g ∈ (Value.slice a' (n + m) cap').ownBlock.toList, g ∈ v.ownBlock.toList ∨ w.heap.size ≤ g) →
      K (a.put o.dst (.slice a' (n + m) cap')) w') : o.wp P a w K Q := by
  obtain ⟨a', cap', w', hr, h2, h3, h4⟩ := run_append_any (P := P) w t o.type e i z size bytes ht hi hz hsize hby hzs hsz v n xs hown ao m c news hl hnone hnews h1 h63 hbytes
  unfold Oper.wp execOp
  simp only [ho, resolve, invoke, builtin, Sem.run_bind, Sem.run_pure, Result.andThen_ok, List.map_toArray, List.map_cons, List.map_nil, hs, hx, hr]
  exact h a' cap' w' h2 h3 h4
/-- At the list of a plain region's operations. -/
theorem wpList_append_any {ops : Array Oper} {rest : List Oper} {o : Oper} {a : Act} {Q : Exit → Act → World → Prop} (hgd : o.guard = none) (s x : Operand) (t : TypeId)
    (ho : o.op = .call { callee := .builtin .append, args := #[s, x], argTypes := #[t, t] })
    (e : TypeId) (i : TypeInfo) (z : Value) (size bytes : Nat) (ht : P.underlying t = some (.slice e)) (hi : P.info? e = some i) (hz : i.zero = some z)
    (hsize : i.size = size) (hby : i.bytes = bytes) (hzs : z.cells.size = size) (hsz : 0 < size)
    (v : Value) (n : Nat) (xs : List Value) (hs : a.eval s = v) (hown : w.ownsRow 0 e size v n xs)
    (ao : Option Addr) (m c : Nat) (news : List Value) (hx : a.eval x = .slice ao m c) (hl : news.length = m * size) (hnone : ao = none → m = 0 ∧ c = 0) (hnews : ∀ ad, ao = some ad → ∀ j u, news[j]? = some u → w.cell? (ad.add j) = some u) (h1 : ∀ u ∈ news, u.oneCell' = true)
    (h63 : n + m ≤ maxLen) (hbytes : (n + m) * bytes ≤ 140737488355328)
    (h : ∀ a' cap' w', w'.ownsRow 0 e size (.slice a' (n + m) cap') (n + m) (xs ++ news) → w.grownBy w' v.ownBlock → (∀ g ∈ (Value.slice a' (n + m) cap').ownBlock.toList, g ∈ v.ownBlock.toList ∨ w.heap.size ≤ g) →
      wpList P ops Q rest (a.put o.dst (.slice a' (n + m) cap')) w') : wpList P ops Q (o :: rest) a w :=
  wpList_plain hgd fun _ hK => wp_append_any w s x t ho e i z size bytes ht hi hz hsize hby hzs hsz v n xs hs hown ao m c news hx hl hnone hnews h1 h63 hbytes fun a' cap' w' h2 h3 h4 => hK _ _ (h a' cap' w' h2 h3 h4)
/-- At a step of a region that draws its order. -/
theorem step_append_any {ops : Array Oper} {o : Oper} {a : Act} {K : Act → World → Prop} {Q : Exit → Act → World → Prop} {E : Prop} (hgd : o.guard = none) (s x : Operand) (t : TypeId)
    (ho : o.op = .call { callee := .builtin .append, args := #[s, x], argTypes := #[t, t] })
    (e : TypeId) (i : TypeInfo) (z : Value) (size bytes : Nat) (ht : P.underlying t = some (.slice e)) (hi : P.info? e = some i) (hz : i.zero = some z)
    (hsize : i.size = size) (hby : i.bytes = bytes) (hzs : z.cells.size = size) (hsz : 0 < size)
    (v : Value) (n : Nat) (xs : List Value) (hs : a.eval s = v) (hown : w.ownsRow 0 e size v n xs)
    (ao : Option Addr) (m c : Nat) (news : List Value) (hx : a.eval x = .slice ao m c) (hl : news.length = m * size) (hnone : ao = none → m = 0 ∧ c = 0) (hnews : ∀ ad, ao = some ad → ∀ j u, news[j]? = some u → w.cell? (ad.add j) = some u) (h1 : ∀ u ∈ news, u.oneCell' = true)
    (h63 : n + m ≤ maxLen) (hbytes : (n + m) * bytes ≤ 140737488355328)
    (h : ∀ a' cap' w', w'.ownsRow 0 e size (.slice a' (n + m) cap') (n + m) (xs ++ news) → w.grownBy w' v.ownBlock → (∀ g ∈ (Value.slice a' (n + m) cap').ownBlock.toList, g ∈ v.ownBlock.toList ∨ w.heap.size ≤ g) →
      K (a.put o.dst (.slice a' (n + m) cap')) w') : if Region.wanted o (yielded ops a.tmps) = true then Oper.wp P o a w K Q else E := by
  have hw : Region.wanted o (yielded ops a.tmps) = true := by simp [Region.wanted, hgd]
  rw [if_pos hw]
  exact wp_append_any w s x t ho e i z size bytes ht hi hz hsize hby hzs hsz v n xs hs hown ao m c news hx hl hnone hnews h1 h63 hbytes h
end
end Go.Proofs.Ytaohihfhgialnaa
