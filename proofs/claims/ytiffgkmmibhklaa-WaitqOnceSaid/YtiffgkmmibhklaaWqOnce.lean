/-
  WaitqOnce: what is said of a nil table; the boxes of the law.
-/
import Derived.Test.YtiffgkmmibhklaaWqOnM
import Derived.Test.YtiffgkmmibhklaaGA
namespace Go.Proofs.Ytiffgkmmibhklaa
open Go.RowKit Go.Maps Go.Shelf

/-- What a nil table answers. -/
structure WqNil : Prop where
  wait : ∀ (x : Wt) (w : World), Calls Try.prog 8 #[.pointer none, aggW x] w fun r w' => r = .returned (.int .i64 1) ∧ Turned [] w w'
  wake : ∀ (a n : Int) (w : World), Calls Try.prog 11 #[.pointer none, .int .i64 a, .int .i64 n] w fun r w' => (∃ ad cap, r = .returned (.slice ad 0 cap)) ∧ Turned [] w w'
  cancel : ∀ (a : Int) (w : World), Calls Try.prog 13 #[.pointer none, .int .i64 a] w fun r w' => r = .returned (.tuple #[aggW (0, 0, 0), .bool false]) ∧ Turned [] w w'
  requeue : ∀ (f t n : Int) (w : World), Calls Try.prog 16 #[.pointer none, .int .i64 f, .int .i64 t, .int .i64 n] w fun r w' => r = .returned (.int .i64 0) ∧ Turned [] w w'
  count : ∀ (a : Int) (w : World), Calls Try.prog 24 #[.pointer none, .int .i64 a] w fun r w' => r = .returned (.int .i64 0) ∧ Turned [] w w'
  who : ∀ (a : Int) (w : World), Calls Try.prog 19 #[.pointer none, .int .i64 a] w fun r w' => r = .returned (.tuple #[aggW (0, 0, 0), .bool false]) ∧ Turned [] w w'
  len : ∀ (w : World), Calls Try.prog 23 #[.pointer none] w fun r w' => r = .returned (.int .i64 0) ∧ ∃ n, w' = w.drewN n
  of : ∀ (a : Int) (w : World), Calls Try.prog 22 #[.pointer none, .int .i64 a] w fun r w' => ∃ f lb, r = .returned (.func (.func f) #[] lb) ∧ Turned [] w w' ∧ (∀ args W, (callFunc f args).run Try.prog W = .ok (.enter f args) W) ∧
    ∀ n, 1 ≤ n → TurnSeq Fence.wide n Try.prog f lb encY [] [] (fun _ => False) (fun xs _ => xs = []) (fun _ _ => False) w'
  expire : ∀ (u : Int) (w : World), Calls Try.prog 21 #[.pointer none, .int .u64 u] w fun r w' => ∃ f lb, r = .returned (.func (.func f) #[] lb) ∧ Turned [] w w' ∧ (∀ args W, (callFunc f args).run Try.prog W = .ok (.enter f args) W) ∧
    ∀ n, 1 ≤ n → TurnSeq Fence.wide n Try.prog f lb encY [] [] (fun _ => False) (fun xs _ => xs = []) (fun _ _ => False) w'

/-- The boxes of WaitqOnce: the key, the answer; in block O the row of numbers Ks. -/
structure OnB (w W : World) (O : Nat) (Ks : List Int) (key : Int) (Z : List Nat) : Prop where
  k : W.heap[w.heap.size]? = some (.cells #[.int .i64 key] 3 (0, 0))
  r : W.heap[w.heap.size + 1]? = some (.cells #[.bool false] 4 (0, 0))
  o : ∃ v, W.heap[O]? = some (.cells #[v] 29 (0, 0)) ∧ W.ownsRow 0 3 1 v Ks.length (intsW Ks) ∧ ∀ j ∈ v.ownBlock.toList, j ∉ Z ∧ w.heap.size + 2 ≤ j ∧ j ≠ O
  x : ∀ j ∈ Z, w.heap.size + 2 ≤ j ∧ j ≠ O
  z : w.heap.size + 2 ≤ O
  t : Turned [] w W
section
variable {w W W' : World} {O : Nat} {Z Z' : List Nat} {Ks : List Int} {key : Int}
theorem OnB.later (h : OnB w W O Ks key Z) (t : Turned [] W W') : OnB w W' O Ks key Z := by
  obtain ⟨v, h1, h2, h3⟩ := h.o
  exact ⟨t.same h.k (by simp), t.same h.r (by simp), ⟨v, t.same h1 (by simp), ownsRow_same h2 fun k _ hl => t.block k hl (by simp), h3⟩, h.x, h.z, h.t.trans t (Newer.refl _ _)⟩
theorem OnB.off (h : OnB w W O Ks key Z) {j : Nat} (hj : j < w.heap.size + 2 ∨ j = O) : j ∉ Z := fun hx => by have := h.x j hx; omega
/-- What lies in Z has turned; Z may be other blocks, new ones. -/
theorem OnB.turn (h : OnB w W O Ks key Z) (t : Turned Z W W') (n : Newer Z W.heap.size Z') : OnB w W' O Ks key Z' := by
  obtain ⟨v, h1, h2, h3⟩ := h.o
  have hO := lt_of_block h1
  have hk := lt_of_block h.r
  have hvl := ownsRow_lt h2
  refine ⟨t.same h.k (h.off (.inl (by omega))), t.same h.r (h.off (.inl (by omega))), ⟨v, t.same h1 (h.off (.inr rfl)), ownsRow_same h2 fun k hk hl => t.block k hl (h3 k hk).1, fun j hj => ⟨fun hx => ?_, (h3 j hj).2⟩⟩, fun j hj => ?_, h.z, h.t.trans t (fun j hj => .inr (by have := h.x j hj; omega))⟩
  · rcases n j hx with h4 | h4
    · exact (h3 j hj).1 h4
    · have := hvl j hj; omega
  · rcases n j hj with h4 | h4
    · exact h.x j h4
    · omega
theorem OnB.mild {N : Nat} (h : OnB w W O Ks key Z) (m : Mild Z N W W') (hN : w.heap.size ≤ N) (n : Newer Z W.heap.size Z') : OnB w W' O Ks key Z' := by
  obtain ⟨v, h1, h2, h3⟩ := h.o
  have hO := lt_of_block h1
  have hk := lt_of_block h.r
  have hvl := ownsRow_lt h2
  refine ⟨m.cells h.k (h.off (.inl (by omega))), m.cells h.r (h.off (.inl (by omega))), ⟨v, m.cells h1 (h.off (.inr rfl)), ownsRow_same h2 fun k hk _ => ?_, fun j hj => ⟨fun hx => ?_, (h3 j hj).2⟩⟩, fun j hj => ?_, h.z, h.t.mild m hN (fun j hj => by have := h.x j hj; omega)⟩
  · obtain ⟨cur, hc⟩ := ownsRow_type h2 k hk
    rw [m.cells hc (h3 k hk).1, hc]
  · rcases n j hx with h4 | h4
    · exact (h3 j hj).1 h4
    · have := hvl j hj; omega
  · rcases n j hj with h4 | h4
    · exact h.x j h4
    · omega
/-- The row of numbers is another one: what is read ahead of the store, and what stands behind it. -/
theorem OnB.store {V : World} {Ks' : List Int} {v' : Value} (h : OnB w W O Ks key Z) (t : Turned [] w V) (hk : V.heap[w.heap.size]? = W.heap[w.heap.size]?) (hr : V.heap[w.heap.size + 1]? = W.heap[w.heap.size + 1]?) (ho : V.heap[O]? = W.heap[O]?)
    (hown : V.ownsRow 0 3 1 v' Ks'.length (intsW Ks')) (hv : ∀ j ∈ v'.ownBlock.toList, j ∉ Z ∧ w.heap.size + 2 ≤ j ∧ j ≠ O) :
    OnB w (V.setCell ⟨O, 0, none⟩ v') O Ks' key Z := by
  obtain ⟨v, h1, _, _⟩ := h.o
  have hz := h.z
  have o := fun j (hj : j ≠ O) => Below.heap_setCell V ⟨O, 0, none⟩ v' j hj
  refine ⟨(o _ (by omega)).trans (hk.trans h.k), (o _ (by omega)).trans (hr.trans h.r), ⟨v', ?_, ?_, hv⟩, h.x, hz, t.setCell (.inr (by show w.heap.size ≤ O; omega)) _⟩
  · rw [heap_setCell_same _ _ _ _ _ _ (ho.trans h1)]
    rfl
  · exact ownsRow_setCell_other hown (a := ⟨O, 0, none⟩) (fun e => by have := (hv O (by simp [e])).2.2; omega) _
/-- One number more. -/
theorem OnB.push {V W2 : World} {v : Value} {g m cap : Nat} {x : Int} (h : OnB w W O Ks key Z) (h1 : W.heap[O]? = some (.cells #[v] 29 (0, 0))) (h2 : ∀ j ∈ v.ownBlock.toList, j < W.heap.size ∧ j ∉ Z ∧ w.heap.size + 2 ≤ j ∧ j ≠ O) (t : Turned [] W V) (hg : V.grownBy W2 v.ownBlock)
    (hm : m = Ks.length + 1) (hown : W2.ownsRow 0 3 1 (.slice (some ⟨g, 0, none⟩) m cap) m (intsW Ks ++ [.int .i64 x])) (hor : v.ownBlock = some g ∨ V.heap.size ≤ g) (hZ : ∀ j ∈ Z, j < W.heap.size) :
    W2.cell? ⟨O, 0, none⟩ = some v ∧ W2.frozen? ⟨O, 0, none⟩ = false ∧ OnB w (W2.setCell ⟨O, 0, none⟩ (.slice (some ⟨g, 0, none⟩) m cap)) O (Ks ++ [x]) key Z ∧ SameAt Z W (W2.setCell ⟨O, 0, none⟩ (.slice (some ⟨g, 0, none⟩) m cap)) := by
  have tW : Turned v.ownBlock.toList W W2 := Turned.grown (t.mono (fun k hk => by simp at hk)) hg (fun k hk => .inl (by simp [hk]))
  have hO := lt_of_block h1
  have hk := lt_of_block h.r
  have hz := h.z
  have sV := t.size
  have off : ∀ j, j < W.heap.size → (j < w.heap.size + 2 ∨ j = O ∨ j ∈ Z) → W2.heap[j]? = W.heap[j]? := fun j hj hd => tW.block j hj (fun hx => by
    obtain ⟨_, q1, q2, q3⟩ := h2 j hx
    rcases hd with hd | hd | hd
    · omega
    · exact q3 hd
    · exact q1 hd)
  have c := (off O hO (.inr (.inl rfl))).trans h1
  subst hm
  have hg2 : g ∉ Z ∧ w.heap.size + 2 ≤ g ∧ g ≠ O := by
    rcases hor with hor | hor
    · exact (h2 g (by simp [hor])).2
    · exact ⟨fun hx => by have := hZ g hx; omega, by omega, by omega⟩
  refine ⟨cell1 c, frozen_of_row _ _ _ _ _ c, h.store (h.t.trans tW (fun k hk => .inr (by have := h2 k hk; omega))) (off _ (by omega) (.inl (by omega))) (off _ (by omega) (.inl (by omega))) (off _ hO (.inr (.inl rfl))) ?_ (fun j hj => ?_), fun j hj => ?_⟩
  · rw [List.length_append]
    simpa [intsW] using hown
  · simp [Value.ownBlock] at hj
    subst hj
    exact hg2
  · have := h.x j hj
    exact (Below.heap_setCell _ _ _ _ (by simp; omega)).trans (off j (hZ j hj) (.inr (.inr hj)))
end

theorem OnB.sub {w W : World} {O : Nat} {Z Z' : List Nat} {Ks : List Int} {key : Int} (h : OnB w W O Ks key Z) (hs : ∀ j ∈ Z', j ∈ Z) : OnB w W O Ks key Z' := by
  obtain ⟨v, h1, h2, h3⟩ := h.o
  exact ⟨h.k, h.r, ⟨v, h1, h2, fun j hj => ⟨fun hx => (h3 j hj).1 (hs j hx), (h3 j hj).2⟩⟩, fun j hj => h.x j (hs j hj), h.z, h.t⟩
/-- What stands behind the second loop; Ds: the loops' marks. -/
structure OnE (S : WqSaid) (w W : World) (a O : Nat) (Ds X : List Nat) (c : Nat) (M : List Wt) (Ks : List Int) (key : Int) : Prop where
  b : OnB w W O Ks key X
  q : S.At W a X 100 100 c M
  d : ∀ D ∈ Ds, W.heap[D]? = some (.deferred (some [])) ∧ D ∉ X
section
variable {S : WqSaid} {w W W' : World} {a O : Nat} {Ds X X' : List Nat} {c c' : Nat} {M M' : List Wt} {Ks : List Int} {key : Int}
theorem OnE.later (h : OnE S w W a O Ds X c M Ks key) (t : Turned [] W W') : OnE S w W' a O Ds X c M Ks key := ⟨h.b.later t, S.keep h.q t (by simp), fun D hD => ⟨t.same (h.d D hD).1 (by simp), (h.d D hD).2⟩⟩
theorem OnE.turn (h : OnE S w W a O Ds X c M Ks key) (q : S.At W' a X' 100 100 c' M') (t : Turned X W W') (n : Newer X W.heap.size X') : OnE S w W' a O Ds X' c' M' Ks key :=
  ⟨h.b.turn t n, q, fun D hD => ⟨t.same (h.d D hD).1 (h.d D hD).2, fun hx => by
    rcases n D hx with h1 | h1
    · exact (h.d D hD).2 h1
    · have := lt_of_block (h.d D hD).1; omega⟩⟩
theorem OnE.mild {N : Nat} (h : OnE S w W a O Ds X c M Ks key) (m : Mild [] N W W') (hN : w.heap.size ≤ N) (hX : ∀ j ∈ X, j < N) (hD : ∀ D ∈ Ds, D < N) : OnE S w W' a O Ds X c M Ks key := by
  refine ⟨(h.b.sub (Z' := []) (by simp)).mild (Z' := []) m hN (Newer.refl _ _) |> fun h2 => ⟨h2.k, h2.r, ?_, h.b.x, h.b.z, h2.t⟩, S.mild h.q m (by simp) hX, fun D hD' => ⟨m.same D _ (h.d D hD').1 (by simp) (.inl (hD D hD')), (h.d D hD').2⟩⟩
  obtain ⟨v, h1, h3, h4⟩ := h.b.o
  refine ⟨v, m.cells h1 (by simp), ownsRow_same h3 fun k hk _ => ?_, h4⟩
  obtain ⟨cur, hc⟩ := ownsRow_type h3 k hk
  rw [m.cells hc (by simp), hc]
theorem OnE.mark {D N : Nat} (h : OnE S w W a O Ds X c M Ks key) (hd : W.heap[D]? = some (.deferred (some []))) (hN : N ≤ D) (hX : ∀ j ∈ X, j < N) : OnE S w W a O (D :: Ds) X c M Ks key :=
  ⟨h.b, h.q, fun D' hD' => by
    rcases List.mem_cons.1 hD' with rfl | h1
    · exact ⟨hd, fun hx => by have := hX _ hx; omega⟩
    · exact h.d D' h1⟩
end
end Go.Proofs.Ytiffgkmmibhklaa
