/-
  A table and the document's, side by side; a row of numbers beside them.
-/
import Derived.Test.YtiffgkmmibhklaaWqAwake
namespace Go.Proofs.Ytiffgkmmibhklaa
open Go.RowKit Go.Maps Go.Shelf

/-- The program's table in block b, the document's in block d; the row of numbers kv. -/
structure WD (S : WqSaid) (B : Nat) (w W : World) (b d : Nat) (m e : Int) (X Y : List Nat) (c : Nat) (L : List Wt) (kv : Value) (Ks : List Int) : Prop where
  q : S.At W b X m e c L
  r : R8 W d Y m e L
  o : ∀ j ∈ Y, j ∉ X
  x : ∀ j ∈ X, w.heap.size ≤ j
  y : ∀ j ∈ Y, w.heap.size ≤ j
  k : W.ownsRow B 3 1 kv Ks.length (intsW Ks)
  f : ∀ j ∈ kv.ownBlock.toList, j ∉ X ∧ j ∉ Y
  t : Turned [] w W
section
variable {S : WqSaid} {B : Nat} {w W W' : World} {b d : Nat} {m e : Int} {X Y X' Y' Z : List Nat} {c c' : Nat} {L L' : List Wt} {kv : Value} {Ks : List Int}
theorem WD.later (h : WD S B w W b d m e X Y c L kv Ks) (t : Turned [] W W') : WD S B w W' b d m e X Y c L kv Ks :=
  ⟨S.keep h.q t (by simp), LAt.keep h.r t (by simp), h.o, h.x, h.y, ownsRow_same h.k fun k _ hl => t.block k hl (by simp), h.f, h.t.trans t (Newer.refl _ _)⟩
theorem WD.kl (h : WD S B w W b d m e X Y c L kv Ks) : ∀ j ∈ kv.ownBlock.toList, j < W.heap.size := ownsRow_lt h.k
/-- Both may have turned. -/
theorem WD.both (h : WD S B w W b d m e X Y c L kv Ks) (q : S.At W' b X' m e c' L') (r : R8 W' d Y' m e L') (o : ∀ j ∈ Y', j ∉ X') (t : Turned (X ++ Y) W W') (n : Newer (X ++ Y) W.heap.size (X' ++ Y')) : WD S B w W' b d m e X' Y' c' L' kv Ks := by
  have hs := h.t.size
  have hx : ∀ j ∈ X ++ Y, w.heap.size ≤ j := fun j hj => by
    rcases List.mem_append.1 hj with h1 | h1
    · exact h.x j h1
    · exact h.y j h1
  have hn : ∀ j ∈ X' ++ Y', w.heap.size ≤ j := fun j hj => by
    rcases n j hj with h1 | h1
    · exact hx j h1
    · omega
  have hf : ∀ j ∈ kv.ownBlock.toList, j ∉ X ++ Y := fun j hj hj' => by
    rcases List.mem_append.1 hj' with h1 | h1
    · exact (h.f j hj).1 h1
    · exact (h.f j hj).2 h1
  have hf' : ∀ j ∈ kv.ownBlock.toList, j ∉ X' ++ Y' := fun j hj hj' => by
    rcases n j hj' with h1 | h1
    · exact hf j hj h1
    · have := h.kl j hj; omega
  exact ⟨q, r, o, fun j hj => hn j (List.mem_append_left _ hj), fun j hj => hn j (List.mem_append_right _ hj), ownsRow_same h.k fun k hk hl => t.block k hl (hf k hk),
    fun j hj => ⟨fun hx' => hf' j hj (List.mem_append_left _ hx'), fun hy' => hf' j hj (List.mem_append_right _ hy')⟩, h.t.trans t (fun j hj => .inr (hx j hj))⟩
/-- The program's has turned. -/
structure WQ (S : WqSaid) (B : Nat) (w W : World) (b d : Nat) (m e : Int) (X Y : List Nat) (c : Nat) (L L0 : List Wt) (kv : Value) (Ks : List Int) : Prop where
  q : S.At W b X m e c L
  r : R8 W d Y m e L0
  o : ∀ j ∈ Y, j ∉ X
  x : ∀ j ∈ X, w.heap.size ≤ j
  y : ∀ j ∈ Y, w.heap.size ≤ j
  k : W.ownsRow B 3 1 kv Ks.length (intsW Ks)
  f : ∀ j ∈ kv.ownBlock.toList, j ∉ X ∧ j ∉ Y
  t : Turned [] w W
theorem WD.stepQ (h : WD S B w W b d m e X Y c L kv Ks) (q : S.At W' b X' m e c' L') (t : Turned X W W') (n : Newer X W.heap.size X') : WQ S B w W' b d m e X' Y c' L' L kv Ks := by
  have hs := h.t.size
  have hYl := LAt.lt h.r
  refine ⟨q, LAt.keep h.r t h.o, fun j hj hx => ?_, fun j hj => ?_, h.y, ownsRow_same h.k fun k hk hl => t.block k hl (h.f k hk).1, fun j hj => ⟨fun hx => ?_, (h.f j hj).2⟩, h.t.trans t (fun j hj => .inr (h.x j hj))⟩
  · rcases n j hx with h1 | h1
    · exact h.o j hj h1
    · have := hYl j hj; omega
  · rcases n j hj with h1 | h1
    · exact h.x j h1
    · omega
  · rcases n j hx with h1 | h1
    · exact (h.f j hj).1 h1
    · have := h.kl j hj; omega
theorem WQ.later {L0 : List Wt} (h : WQ S B w W b d m e X Y c L L0 kv Ks) (t : Turned [] W W') : WQ S B w W' b d m e X Y c L L0 kv Ks :=
  ⟨S.keep h.q t (by simp), LAt.keep h.r t (by simp), h.o, h.x, h.y, ownsRow_same h.k fun k _ hl => t.block k hl (by simp), h.f, h.t.trans t (Newer.refl _ _)⟩
theorem WQ.stepR {L0 : List Wt} (h : WQ S B w W b d m e X Y c L L0 kv Ks) (r : R8 W' d Y' m e L) (t : Turned Y W W') (n : Newer Y W.heap.size Y') : WD S B w W' b d m e X Y' c L kv Ks := by
  have hs := h.t.size
  have hXl := S.lt h.q
  have hkl := ownsRow_lt h.k
  refine ⟨S.keep h.q t (fun j hj hy => h.o j hy hj), r, fun j hj hx => ?_, h.x, fun j hj => ?_, ownsRow_same h.k fun k hk hl => t.block k hl (h.f k hk).2, fun j hj => ⟨(h.f j hj).1, fun hy => ?_⟩, h.t.trans t (fun j hj => .inr (h.y j hj))⟩
  · rcases n j hj with h1 | h1
    · exact h.o j h1 hx
    · have := hXl j hx; omega
  · rcases n j hj with h1 | h1
    · exact h.y j h1
    · omega
  · rcases n j hy with h1 | h1
    · exact (h.f j hj).2 h1
    · have := hkl j hj; omega
/-- The document's has not turned, nor who waits. -/
theorem WQ.still (h : WQ S B w W b d m e X Y c L L kv Ks) : WD S B w W b d m e X Y c L kv Ks := ⟨h.q, h.r, h.o, h.x, h.y, h.k, h.f, h.t⟩
end

/-- One number more, while nothing has been done to the tables since B. -/
theorem WD.grow {S : WqSaid} {B : Nat} {w W V W' : World} {b d : Nat} {m e : Int} {X Y : List Nat} {c : Nat} {L : List Wt} {kv kv' : Value} {Ks : List Int} {z : Int} (h : WD S B w W b d m e X Y c L kv Ks) (hX : ∀ j ∈ X, j < B) (hY : ∀ j ∈ Y, j < B) (hB : w.heap.size ≤ B)
    (t : Turned [] W V) (hg : V.grownBy W' kv.ownBlock) (hown : W'.ownsRow B 3 1 kv' (Ks.length + 1) (intsW Ks ++ [.int .i64 z])) : WD S B w W' b d m e X Y c L kv' (Ks ++ [z]) := by
  have hlt : ∀ k ∈ kv.ownBlock.toList, B ≤ k := fun k hk => (h.k.lt k (by simpa using hk)).1
  have hlt' : ∀ k ∈ kv'.ownBlock.toList, B ≤ k := fun k hk => (hown.lt k (by simpa using hk)).1
  have t2 : Turned kv.ownBlock.toList W W' := Turned.grown (t.mono (fun k hk => by simp at hk)) hg (fun k hk => .inl (by simp [hk]))
  refine ⟨S.keep h.q t2 (fun j hj hk => by have := hX j hj; have := hlt j hk; omega), LAt.keep h.r t2 (fun j hj hk => by have := hY j hj; have := hlt j hk; omega), h.o, h.x, h.y, ?_, fun j hj => ⟨fun hx => by have := hX j hx; have := hlt' j hj; omega, fun hy => by have := hY j hy; have := hlt' j hj; omega⟩, h.t.trans t2 (fun k hk => .inr (by have := hlt k hk; omega))⟩
  rw [List.length_append]
  simpa [intsW] using hown

theorem waitL_le (m e : Int) (L : List Wt) (x : Wt) : (waitL m e L x).length ≤ L.length + 1 := by
  unfold waitL
  split <;> simp
theorem wakeL_le (a : Int) : ∀ (k : Nat) (L : List Wt), (wakeL a k L).length ≤ L.length
  | 0, L => Nat.le_refl _
  | k + 1, L => by
    simp only [wakeL]
    split
    · exact Nat.le_refl _
    · exact Nat.le_trans (wakeL_le a k _) (List.length_eraseIdx_le ..)
theorem takLW_le (L : List Wt) (i : Int) : (takLW L i).length ≤ L.length := by
  unfold takLW
  split
  · exact Nat.le_refl _
  · exact List.length_eraseIdx_le ..
theorem reqL_len (f t e : Int) : ∀ (k : Nat) (L : List Wt), (reqL f t e k L).length = L.length
  | 0, L => rfl
  | k + 1, L => by
    simp only [reqL]
    by_cases h : keyI L f < 0 ∨ e ≤ cntK L t
    · rw [if_pos h]
    · rw [if_neg h, reqL_len f t e k _]
      have hr := key_range L f
      have h0 : ¬ keyI L f < 0 := fun h1 => h (.inl h1)
      unfold sentL
      rw [List.length_append, List.length_eraseIdx, if_pos (by omega)]
      simp
      omega

/-- A deed: its kind, who waits, a number. -/
abbrev Dw := Int × Wt × Int
abbrev tDd : TypeId := 34
abbrev dwC (x : Dw) : Array Value := #[.int .u8 x.1, .int .i64 x.2.1.1, .int .i64 x.2.1.2.1, .int .u64 x.2.1.2.2, .int .i64 x.2.2]
theorem cells5w {w : World} {b : Nat} {x0 x1 x2 x3 x4 : Value} {t : TypeId} (h : w.heap[b]? = some (.cells #[x0, x1, x2, x3, x4] t (0, 0))) :
    w.cell? ⟨b, 0, none⟩ = some x0 ∧ w.cell? ⟨b, 1, none⟩ = some x1 ∧ w.cell? ⟨b, 2, none⟩ = some x2 ∧ w.cell? ⟨b, 3, none⟩ = some x3 ∧ w.cell? ⟨b, 4, none⟩ = some x4 := by
  refine ⟨by simp [World.cell?, h], by simp [World.cell?, h], by simp [World.cell?, h], by simp [World.cell?, h], by simp [World.cell?, h]⟩
end Go.Proofs.Ytiffgkmmibhklaa
