/-
  The two arenas side by side, deed by deed: what holds of them.
-/
import Derived.Test.YtiicbmgompnehaaArAwake
import Derived.Test.YtiicbmgompnehaaArRef
import Derived.Test.YtiicbmgompnehaaArAll
namespace Go.Proofs.Ytiicbmgompnehaa
open Go.RowKit

/-- Slots and places that may be, behind i deeds. -/
structure Fit (m : Int) (i : Nat) (S : List (Int × Bool)) (F : List Nat) : Prop where
  sl : S.length ≤ i
  fl : F.length ≤ i
  room : (S.length : Int) - F.length ≤ m
  place : ∀ f ∈ F, f < S.length

theorem Fit.mono {m : Int} {i : Nat} {S : List (Int × Bool)} {F : List Nat} (h : Fit m i S F) : Fit m (i + 1) S F := ⟨Nat.le_succ_of_le h.sl, Nat.le_succ_of_le h.fl, h.room, h.place⟩
theorem Fit.put {m : Int} {i : Nat} {S : List (Int × Bool)} {F : List Nat} (h : Fit m i S F) (v : Int) : Fit m (i + 1) (pS m S F v) (pF m S F) := by
  by_cases hm : full m S F = true
  · simp only [pS, pF, hm, if_true]
    exact h.mono
  · have hm' : full m S F = false := by simpa using hm
    simp only [pS, pF, hm']
    have hne : ¬ (S.length : Int) - F.length = m := by simpa [full] using hm'
    have h1 := h.sl
    have h2 := h.fl
    have h3 := h.room
    have h4 := h.place
    rcases List.eq_nil_or_concat F with rfl | ⟨F', f, rfl⟩
    · refine ⟨by simp; omega, by simp, by simp at h3 hne ⊢; omega, by simp⟩
    · simp only [List.concat_eq_append, List.getLast?_append, List.getLast?_singleton, Option.some_or, List.dropLast_concat] at *
      refine ⟨by simp; omega, by simp at h2 ⊢; omega, by simp at h3 hne ⊢; omega, fun g hg => ?_⟩
      have := h4 g (List.mem_append_left _ hg)
      simpa using this
theorem Fit.drop {m : Int} {i : Nat} {S : List (Int × Bool)} {F : List Nat} (h : Fit m i S F) (j : Nat) (hj : j < S.length) (z : Int) : Fit m (i + 1) (S.set j (z, false)) (F ++ [j]) := by
  have h1 := h.sl
  have h2 := h.fl
  have h3 := h.room
  refine ⟨by simp; omega, by simp; omega, by simp; omega, fun g hg => ?_⟩
  rcases List.mem_append.1 hg with hg | hg
  · simpa using h.place g hg
  · simp at hg
    subst hg
    simpa using hj
theorem Fit.set {m : Int} {i : Nat} {S : List (Int × Bool)} {F : List Nat} (h : Fit m i S F) (j : Nat) (x : Int × Bool) : Fit m (i + 1) (S.set j x) F := by
  have h1 := h.sl
  have h2 := h.fl
  have h3 := h.room
  exact ⟨by simp; omega, by omega, by simpa using h3, fun g hg => by simpa using h.place g hg⟩

/-- The two arenas in memory, behind i deeds; the box of the second one. -/
def Both (w0 w : World) (A R P : Nat) (m : Int) (S : List (Int × Bool)) (F : List Nat) : Prop :=
  ∃ X Y, ArI w A X m S F ∧ RfAt w R Y m S F ∧ (∀ k ∈ X, k ∉ Y) ∧ (∀ k ∈ X, w0.heap.size ≤ k) ∧ (∀ k ∈ Y, w0.heap.size ≤ k) ∧ Boxed w P 26 (.pointer (some ⟨R, 0, none⟩)) ∧ P ∉ X ∧ P ∉ Y ∧ w0.heap.size ≤ P ∧ Below w0.heap.size w0 w

theorem Boxed.turned {w w' : World} {B : Nat} {t : TypeId} {v : Value} {X : List Nat} (h : Boxed w B t v) (ht : Turned X w w') (hx : B ∉ X) : Boxed w' B t v := ht.same h hx

/-- Nothing but new blocks. -/
theorem Both.later {w0 w w' : World} {A R P : Nat} {m : Int} {S : List (Int × Bool)} {F : List Nat} (h : Both w0 w A R P m S F) (ht : Turned [] w w') : Both w0 w' A R P m S F := by
  obtain ⟨X, Y, h1, h2, h3, h4, h5, h6, h7, h8, h9, h10⟩ := h
  exact ⟨X, Y, h1.keep ht (by simp), h2.keep ht (by simp), h3, h4, h5, Boxed.turned h6 ht (by simp), h7, h8, h9, h10.trans (ht.below (by simp) h10.size)⟩

/-- A deed: first the one arena turns, then the other one. -/
theorem Both.step {w0 w wa wb : World} {A R P : Nat} {m : Int} {S S' : List (Int × Bool)} {F F' : List Nat} {X X' Y Y' : List Nat}
    (h2 : RfAt w R Y m S F) (h3 : ∀ k ∈ X, k ∉ Y) (h4 : ∀ k ∈ X, w0.heap.size ≤ k) (h5 : ∀ k ∈ Y, w0.heap.size ≤ k) (h6 : Boxed w P 26 (.pointer (some ⟨R, 0, none⟩))) (h7 : P ∉ X) (h8 : P ∉ Y) (h9 : w0.heap.size ≤ P) (h10 : Below w0.heap.size w0 w)
    (a1 : ArI wa A X' m S' F') (a2 : Turned X w wa) (a3 : Newer X w.heap.size X') (b1 : RfAt wb R Y' m S' F') (b2 : Turned Y wa wb) (b3 : Newer Y wa.heap.size Y') : Both w0 wb A R P m S' F' := by
  have hP := lt_of_block h6
  have hs := a2.size
  have hXY : ∀ k ∈ X', k ∉ Y := fun k hk hy => by
    rcases a3 k hk with h | h
    · exact h3 k h hy
    · have := h2.lt k hy
      omega
  refine ⟨X', Y', a1.keep b2 hXY, b1, fun k hk hy => ?_, fun k hk => ?_, fun k hk => ?_, Boxed.turned (Boxed.turned h6 a2 h7) b2 h8, fun h => ?_, fun h => ?_, h9, ?_⟩
  · rcases b3 k hy with h | h
    · exact hXY k hk h
    · have := a1.lt k hk
      omega
  · rcases a3 k hk with h | h
    · exact h4 k h
    · have := h10.size
      omega
  · rcases b3 k hk with h | h
    · exact h5 k h
    · have := h10.size
      omega
  · rcases a3 P h with h | h
    · exact h7 h
    · omega
  · rcases b3 P h with h | h
    · exact h8 h
    · omega
  · exact (h10.trans (a2.below h4 h10.size)).trans (b2.below h5 (Nat.le_trans h10.size hs))

/-- 'L[j] = v' where there is a value. -/
theorem RfAt.setL {w : World} {b : Nat} {X : List Nat} {m : Int} {S : List (Int × Bool)} {F : List Nat} (h : RfAt w b X m S F) {j : Nat} {u : Int} (hj : S[j]? = some (u, true)) (v : Int) :
    ∃ gl cl x, w.cell? ⟨b, 1, none⟩ = some (.slice (some ⟨gl, 0, none⟩) S.length cl) ∧ w.cell? ⟨gl, j, none⟩ = some x ∧ w.frozen? ⟨gl, j, none⟩ = false ∧
      RfAt (w.setCell ⟨gl, j, none⟩ (.int .i64 v)) b X m (S.set j (v, true)) F ∧ Turned X w (w.setCell ⟨gl, j, none⟩ (.int .i64 v)) := by
  obtain ⟨lv, ov, fv, L, hP, hL, rfl⟩ := h.parts
  have hlen : L.length = S.length := by have := hP.rl.1; simpa using this
  obtain ⟨hl, he⟩ := List.getElem?_eq_some_iff.1 hj
  obtain ⟨gl, cl, rfl, _, _⟩ := ownsRow_pos hP.rl (by omega)
  obtain ⟨_, c1, _, _, _⟩ := hP.cells
  obtain ⟨k1, l1⟩ := hP.cellL (j := j) (u := .int .i64 u) (by simp [hL j u hj])
  obtain ⟨r1, r2⟩ := hP.setL j (.int .i64 v)
  refine ⟨gl, cl, _, c1, k1, l1, r1.whole (S := S.set j (v, true)) (F := F) (L := L.set j v) (by simp) (by simp) rfl (by rw [List.map_set]) ?_ rfl (rel_set hL hlen j v), r2⟩
  rw [List.map_set]
  refine List.ext_getElem? fun i => ?_
  rw [List.getElem?_set]
  split
  · rename_i e
    subst e
    simp [hl, he]
  · rfl

/-- What the end of a round asks. -/
theorem Both.tail {w0 w : World} {A R P : Nat} {m : Int} {S : List (Int × Bool)} {F : List Nat} (h : Both w0 w A R P m S F) (hS : S.length ≤ 1000000) (hF : F.length ≤ 1000000) :
    (∀ q, Calls Try.prog 16 #[.pointer (some ⟨A, 0, none⟩)] (w.drewN q) fun e w' => e = .returned (.int .i64 ((S.length : Int) - F.length)) ∧ ∃ n, w' = w.drewN n) ∧
    (∀ q, Calls Try.prog 17 #[.pointer (some ⟨R, 0, none⟩)] (w.drewN q) fun e w' => e = .returned (.int .i64 ((S.length : Int) - F.length)) ∧ ∃ n, w' = w.drewN n) ∧
    (∀ q, Calls Try.prog 18 #[.pointer (some ⟨A, 0, none⟩)] (w.drewN q) fun e w' => e = .returned (.int .i64 m) ∧ ∃ n, w' = w.drewN n) ∧
    w.cell? ⟨P, 0, none⟩ = some (.pointer (some ⟨R, 0, none⟩)) ∧ w.cell? ⟨R, 0, none⟩ = some (.int .i64 m) := by
  obtain ⟨X, Y, h1, h2, h3, h4, h5, h6, h7, h8, h9, h10⟩ := h
  refine ⟨fun q => Calls.quiet_of (len_any (w := w.drewN q) h1 hS hF), fun q => Calls.quiet_of (rlen_any (w := w.drewN q) h2 hS hF), fun q => (most_any (w := w.drewN q) h1).mono fun e w' ⟨he, hw⟩ => ⟨he, q, hw.symm⟩, h6.cell, ?_⟩
  obtain ⟨lv, ov, fv, L, hP, _, _⟩ := h2.parts
  exact hP.cells.1
/-- The box of a deed, behind the turns of an arena. -/
theorem deed_cells {w w' : World} {X : List Nat} {k a v : Value} {t : TypeId} (h : Turned X (w.alloc (.cells #[k, a, v] t)) w') (hx : ∀ x ∈ X, x < w.heap.size) :
    w'.heap[w.heap.size]? = some (.cells #[k, a, v] t (0, 0)) ∧ w'.cell? ⟨w.heap.size, 0, none⟩ = some k ∧ w'.cell? ⟨w.heap.size, 1, none⟩ = some a ∧ w'.cell? ⟨w.heap.size, 2, none⟩ = some v := by
  have h1 := h.same (heap_alloc_new w (.cells #[k, a, v] t)) (fun hm => by have := hx _ hm; omega)
  obtain ⟨c0, c1, c2, _⟩ := cells3 h1
  exact ⟨h1, c0, c1, c2⟩

theorem RfP.keep {w w' : World} {b : Nat} {m : Int} {lv ov fv : Value} {nl no nf : Nat} {Ls Os Fs : List Value} {Y : List Nat} (h : RfP w b m lv nl Ls ov no Os fv nf Fs) (ht : Turned Y w w') (hd : ∀ k ∈ rb b lv ov fv, k ∉ Y) : RfP w' b m lv nl Ls ov no Os fv nf Fs :=
  ⟨ht.same h.blk (hd _ (by simp [rb])), ownsRow_same h.rl (fun k hk hl => ht.block k hl (hd k (List.mem_cons_of_mem _ (List.mem_append_left _ hk)))),
    ownsRow_same h.ro (fun k hk hl => ht.block k hl (hd k (List.mem_cons_of_mem _ (List.mem_append_right _ (List.mem_append_left _ hk))))),
    ownsRow_same h.rf (fun k hk hl => ht.block k hl (hd k (List.mem_cons_of_mem _ (List.mem_append_right _ (List.mem_append_right _ hk))))), h.off⟩

/-- What the law's second half has in memory: its count, whether all is well, the box of the document's arena, and that. -/
structure Env (w0 wz : World) (bk P R : Nat) (m : Int) (lv ov fv : Value) (S : List (Int × Bool)) (F : List Nat) (L : List Int) (q : Nat) (t : Bool) (w : World) : Prop where
  k : Boxed w bk 3 (.int .i64 (q : Int))
  s : Boxed w (bk + 1) 4 (.bool t)
  p : Boxed w P 26 (.pointer (some ⟨R, 0, none⟩))
  r : RfP w R m lv S.length (L.map (Value.int .i64)) ov S.length (S.map fun s => .bool s.2) fv F.length (places F)
  b : Below w0.heap.size w0 w
  pl : P < bk
  rl : ∀ x ∈ rb R lv ov fv, x < bk
  bl : w0.heap.size ≤ bk

theorem keepsOthers_drewN (W : World) (n : Nat) : KeepsOthers W (W.drewN n) := ⟨Nat.le_refl _, fun _ _ h _ => h⟩

section
variable {w0 wz w : World} {bk P R : Nat} {m : Int} {lv ov fv : Value} {S : List (Int × Bool)} {F : List Nat} {L : List Int} {q : Nat} {t : Bool}
theorem Env.drewN (h : Env w0 wz bk P R m lv ov fv S F L q t w) (n : Nat) : Env w0 wz bk P R m lv ov fv S F L q t (w.drewN n) :=
  ⟨h.k, h.s, h.p, ⟨h.r.blk, h.r.rl, h.r.ro, h.r.rf, h.r.off⟩, below_drewN h.b n, h.pl, h.rl, h.bl⟩
theorem Env.setK (h : Env w0 wz bk P R m lv ov fv S F L q t w) (q' : Nat) : Env w0 wz bk P R m lv ov fv S F L q' t (w.setCell ⟨bk, 0, none⟩ (.int .i64 (q' : Int))) := by
  have ht : Turned [bk] w (w.setCell ⟨bk, 0, none⟩ (.int .i64 (q' : Int))) := (Turned.refl _ w).setCell (.inl (by simp)) _
  have h1 := h.pl
  have h2 := h.bl
  exact ⟨h.k.set _, Boxed.turned h.s ht (by simp), Boxed.turned h.p ht (by simp; omega), h.r.keep ht (fun x hx => by have := h.rl x hx; simp; omega), h.b.setCell (p := ⟨bk, 0, none⟩) h2 _, h1, h.rl, h2⟩
theorem Env.setS (h : Env w0 wz bk P R m lv ov fv S F L q t w) (t' : Bool) : Env w0 wz bk P R m lv ov fv S F L q t' (w.setCell ⟨bk + 1, 0, none⟩ (.bool t')) := by
  have ht : Turned [bk + 1] w (w.setCell ⟨bk + 1, 0, none⟩ (.bool t')) := (Turned.refl _ w).setCell (.inl (by simp)) _
  have h1 := h.pl
  have h2 := h.bl
  exact ⟨Boxed.turned h.k ht (by simp), h.s.set _, Boxed.turned h.p ht (by simp; omega), h.r.keep ht (fun x hx => by have := h.rl x hx; simp; omega), h.b.setCell (p := ⟨bk + 1, 0, none⟩) (by show w0.heap.size ≤ bk + 1; omega) _, h1, h.rl, h2⟩
/-- The turn of a block that is no cells. -/
theorem Env.abides {w' : World} {row : Option Nat} {B : Nat} (h : Env w0 wz bk P R m lv ov fv S F L q t w) (hg : w.grownBy w' row) (hr : ∀ r, row = some r → B ≤ r ∧ ∃ o : Obj, w.heap[r]? = some o ∧ o.isCells = false) (hB : w0.heap.size ≤ B) : Env w0 wz bk P R m lv ov fv S F L q t w' := by
  have hr' : ∀ r, row = some r → ∃ o : Obj, w.heap[r]? = some o ∧ o.isCells = false := fun r e => (hr r e).2
  exact ⟨block_abides h.k hg hr', block_abides h.s hg hr', block_abides h.p hg hr', ⟨block_abides h.r.blk hg hr', row_abides h.r.rl hg hr', row_abides h.r.ro hg hr', row_abides h.r.rf hg hr', h.r.off⟩,
    h.b.grown hg h.b.size (fun k e => Nat.le_trans hB (hr k e).1), h.pl, h.rl, h.bl⟩
end
end Go.Proofs.Ytiicbmgompnehaa
