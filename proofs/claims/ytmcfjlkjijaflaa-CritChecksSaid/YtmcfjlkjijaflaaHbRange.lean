/-
  A loop over a function that turns memory of its own between two rounds (a heap that is popped): its contract, and the caller's law. No program.
-/
import Derived.Test.YtmcfjlkjijaflaaArKept
import Derived.RangeFuncWrites
namespace Go.Proofs.Ytmcfjlkjijaflaa
open Go.RowKit

/-- The blocks of X lie as they lay. -/
def SameAt (X : List Nat) (W W' : World) : Prop := ∀ k ∈ X, W'.heap[k]? = W.heap[k]?
theorem SameAt.refl (X : List Nat) (W : World) : SameAt X W W := fun _ _ => rfl
theorem SameAt.trans {X : List Nat} {A B C : World} (h : SameAt X A B) (g : SameAt X B C) : SameAt X A C := fun k hk => (g k hk).trans (h k hk)
theorem SameAt.of_turned {X Y : List Nat} {A B : World} (h : Turned Y A B) (hx : ∀ k ∈ X, k < A.heap.size ∧ k ∉ Y) : SameAt X A B := fun k hk => h.block k (hx k hk).1 (hx k hk).2
/-- What is told of may turn: the blocks of X, and from B on what is no cells. -/
structure Mild (X : List Nat) (B : Nat) (W W' : World) : Prop where
  os : W'.os = W.os
  tape : W'.tape = W.tape
  output : W'.output = W.output
  size : W.heap.size ≤ W'.heap.size
  same : ∀ (k : Nat) (o : Obj), W.heap[k]? = some o → k ∉ X → k < B ∨ o.isCells = true → W'.heap[k]? = some o
theorem Mild.of_turned {X : List Nat} {B : Nat} {W W' : World} (h : Turned X W W') : Mild X B W W' :=
  ⟨h.os, h.tape, h.output, h.size, fun _ _ ho hx _ => h.same ho hx⟩
theorem Mild.of_put {X : List Nat} {B l : Nat} {W : World} {o : Obj} (hl : W.heap[l]? = some o) (ho : o.isCells = false) (hB : B ≤ l) (o' : Obj) : Mild X B W (W.putObj l o') :=
  ⟨rfl, rfl, rfl, by simp, fun k u hu _ hk => by
    have hne : k ≠ l := by
      rintro rfl
      rw [hl] at hu
      cases hu
      rcases hk with h | h
      · omega
      · rw [ho] at h
        cases h
    exact (World.putObj_heap_other hne).trans hu⟩

/-- How a round may be left: the loops' own records and the iterator's blocks lie as they lay. -/
def leftPost {α : Type} (B : Nat) (Y : List Nat) (I : List α → World → Prop) (Ix : Code → List α → World → Prop) (xs : List α) (W : World) : Exit → Act → World → Prop
  | .normal, _, W' => KeepsFrom B W W' ∧ SameAt Y W W' ∧ I xs W'
  | .ret, _, W' => KeepsFrom B W W' ∧ SameAt Y W W' ∧ Ix .ret xs W'
  | .exit id, _, W' => KeepsFrom B W W' ∧ SameAt Y W W' ∧ Ix (.exit id) xs W'
  | .goto t, _, W' => KeepsFrom B W W' ∧ SameAt Y W W' ∧ Ix (.goto t) xs W'
  | .panic _, _, _ => False
  | .outgrown, _, _ => False

/-- The contract: X: what the iterator turns; Y: what it leans on; Sp: what may have come; S: behind the last one; Sx: behind a round that was left. -/
def TurnSeq {α : Type} (F : Fence) (n : Nat) (P : Program) (g : Nat) (lb : Array Value) (encs : α → Array Value) (X Y : List Nat) (Sp : List α → Prop) (S Sx : List α → World → Prop) (w : World) : Prop :=
  ∀ (l : Nat) (J Jx : List α → World → Prop) (W : World), Turned [] w W → (∀ xs A B, J xs A → Turned X A B → J xs B) →
    (∀ pre x A, J pre A → Sp (pre ++ [x]) → YieldAt F (n - 1) P l (encs x) A fun e B =>
      SameAt Y A B ∧ A.heap.size ≤ B.heap.size ∧ ((e = .returned (.bool true) ∧ J (pre ++ [x]) B) ∨ (e = .returned (.bool false) ∧ Jx (pre ++ [x]) B))) →
    J [] W →
    CallsIn F n P g (#[.func (.yield l) #[] #[]] ++ lb) W fun e W' => (∃ v, e = .returned v) ∧ ((∃ xs, S xs W' ∧ J xs W') ∨ (∃ xs, Sx xs W' ∧ Jx xs W'))

variable {F : Fence} {n : Nat} {P : Program}
theorem range_turns {α : Type} {g : Operand} {ps : Array Tmp} {assign body : Code} {Q : Exit → Act → World → Prop} {a : Act} {w : World}
    (hro : F.round = none) (h1 : 1 ≤ n) {gf : Nat} {lb : Array Value} (hg : a.eval g = .func (.func gf) #[] lb) (hFg : F.fn gf) (eg : ∀ args w, (callFunc gf args).run P w = .ok (.enter gf args) w)
    {encs : α → Array Value} {X Y : List Nat} {Sp : List α → Prop} {S Sx : List α → World → Prop} (hX : ∀ k ∈ X, k < w.heap.size) (hY : ∀ k ∈ Y, k < w.heap.size)
    (hseq : TurnSeq F (n - 1) P gf lb encs X Y Sp S Sx w) (hps : ∀ x, (encs x).size = ps.size)
    (hS : ∀ xs A B, S xs A → SameAt Y A B → S xs B) (hSx : ∀ xs A B, Sx xs A → SameAt Y A B → Sx xs B)
    (I : List α → World → Prop) (Ix : Code → List α → World → Prop) (hI : ∀ xs A B, I xs A → Mild X w.heap.size A B → I xs B) (hIx : ∀ c xs A B, Ix c xs A → Mild [] w.heap.size A B → Ix c xs B) (h0 : I [] w)
    (Ax : α → Act → World → Prop) (hAx : ∀ x a' A B, Ax x a' A → Mild [] w.heap.size A B → Ax x a' B)
    (hassign : ∀ (l : Nat) (pre : List α) (x : α) (W : World) (K : Act → World → Prop), I pre W → (∀ a' W', KeepsFrom w.heap.size W W' → SameAt Y W W' → I pre W' → Ax x a' W' → K a' W') →
      assign.wpIn (F.inRound l) (n - 1 - 1) P (Exit.then K (fun _ _ _ => False)) { tmps := (ps.zip (encs x)).foldl (fun t (p, v) => t.setIfInBounds p v) a.tmps, defers := [] } W)
    (hbody : ∀ (l : Nat) (pre : List α) (x : α) (a' : Act) (W : World), I pre W → Ax x a' W → Sp (pre ++ [x]) → body.wpIn (F.inRound l) (n - 1 - 1) P (leftPost w.heap.size Y I Ix (pre ++ [x]) W) a' W)
    (hdone : ∀ (D : Nat) (xs : List α) (W : World), w.heap.size ≤ D → S xs W → I xs W → W.heap[D]? = some (.deferred (some [])) → Q .normal { a with defers := { target := .collected D, args := #[] } :: a.defers } W)
    (hstop : ∀ (D : Nat) (c : Code) (xs : List α) (W : World), w.heap.size ≤ D → Sx xs W → Ix c xs W → W.heap[D]? = some (.deferred (some [])) → c.wpIn F n P Q { a with defers := { target := .collected D, args := #[] } :: a.defers } W) :
    (Code.rangeFunc g ps assign body).wpIn F n P Q a w := by
  refine wpIn_rangeFunc fun fn hfn => ?_
  rw [hro]
  obtain ⟨N, hN⟩ : ∃ N, w.heap.size = N := ⟨_, rfl⟩
  -- the loop's record, in each of its states
  obtain ⟨R, hR⟩ : ∃ R : LoopState → Option Code → Loop, ∀ st pe, R st pe = { state := st, pending := pe, fn, tmps := a.tmps, params := ps, assign, body, defers := N } := ⟨_, fun _ _ => rfl⟩
  obtain ⟨W0, hW0⟩ : ∃ W0, (w.alloc (.deferred (some []))).alloc (.loop (R .ready none)) = W0 := ⟨_, rfl⟩
  have two : Turned [] w W0 := hW0 ▸ ((Turned.refl [] w).alloc _).alloc _
  have recL : W0.heap[N + 1]? = some (.loop (R .ready none)) := by
    have h := World.alloc_heap_new (w.alloc (.deferred (some []))) (.loop (R .ready none))
    rw [World.size_alloc, hN] at h
    rw [← hW0]
    exact h
  have recD : W0.heap[N]? = some (.deferred (some [])) := by
    have h := World.alloc_heap_new w (.deferred (some []))
    rw [hN] at h
    rw [← hW0]
    exact (Below.heap_alloc _ _ _ (by simp; omega)).trans h
  rw [hN] at hI hIx hAx hassign hbody hdone hstop hX hY
  have offX : ∀ k, N ≤ k → k ∉ X := fun k hk hx => by have := hX k hx; omega
  have offY : ∀ k ∈ Y, k ≠ N + 1 := fun k hk e => by have := hY k hk; omega
  -- what a turn of the record leaves
  have turnY : ∀ (W : World) (o : Obj), SameAt Y W (W.putObj (N + 1) o) := fun W o k hk => World.putObj_heap_other (offY k hk)
  have done : ∀ (jump : Option Code) (W : World) (st : LoopState), W.heap[N + 1]? = some (.loop (R st none)) → W.heap[N]? = some (.deferred (some [])) → ∀ st', (W.putObj (N + 1) (.loop (R st' jump))).heap[N + 1]? = some (.loop (R st' jump)) ∧ (W.putObj (N + 1) (.loop (R st' jump))).heap[N]? = some (.deferred (some [])) :=
    fun jump W st hl hd st' => ⟨World.putObj_heap_same (Array.getElem?_eq_some_iff.1 hl).1, (World.putObj_heap_other (by omega)).trans hd⟩
  refine ⟨N + 1, [{ target := .collected N, args := #[] }], W0, { target := .fn (.func gf) lb, args := #[.func (.yield (N + 1)) #[] #[]] }, W0, gf, #[.func (.yield (N + 1)) #[] #[]] ++ lb, W0, ?_, ?_, ?_, ?_, fun _ => h1, ?_⟩
  · rw [← hW0, hR, ← hN]
    exact run_enterLoop_outer _ _ _ _ _
  · simp only [resolve, hg]
    simp [go_sem]
  · intro f' hf'
    simp [Target.leads] at hf'
    subst hf'
    exact hFg
  · simp [invoke, go_sem, eg]
  refine (hseq (N + 1) (fun xs W => (I xs W ∧ W.heap[N + 1]? = some (.loop (R .ready none))) ∧ W.heap[N]? = some (.deferred (some [])))
    (fun xs W => ∃ c, (Ix c xs W ∧ W.heap[N + 1]? = some (.loop (R .done (some c)))) ∧ W.heap[N]? = some (.deferred (some []))) W0 two ?_ ?_ ⟨⟨hI _ _ _ h0 (Mild.of_turned (two.mono (fun k hk => by simp at hk))), recL⟩, recD⟩).mono ?_
  · -- the iterator's own steps
    rintro xs A B ⟨⟨hi, hl⟩, hd⟩ ht
    exact ⟨⟨hI _ _ _ hi (Mild.of_turned ht), ht.same hl (offX _ (by omega))⟩, ht.same hd (offX _ (Nat.le_refl _))⟩
  · -- a round
    rintro pre x A ⟨⟨hi, hl⟩, hd⟩ hsp
    have hy := run_yield (P := P) (args := encs x) hl (by rw [hR]; exact hps x)
    rw [hR] at hy
    refine ⟨fn, _, assign, body, hy, roundIn_of_wpIn hfn (hassign _ pre x A _ hi ?_)⟩
    intro a' B hka hya hia hax
    have hlB := hka.same _ _ (by omega) hl rfl
    have hdB := hka.same _ _ (Nat.le_refl _) hd rfl
    refine ⟨_, run_beginRound hlB (by rw [hR]), ?_⟩
    have hbusy : ({ R .ready none with state := .busy } : Loop) = R .busy none := by rw [hR, hR]
    rw [hbusy]
    obtain ⟨hlC, hdC⟩ := done none B .ready hlB hdB .busy
    have mB : ∀ Z, Mild Z N B (B.putObj (N + 1) (.loop (R .busy none))) := fun Z => Mild.of_put hlB rfl (by omega) _
    refine wpIn_mono (hbody _ pre x a' _ (hI _ _ _ hia (mB X)) (hAx _ _ _ _ hax (mB [])) hsp) ?_
    have fin : ∀ (jump : Option Code) (C : World), KeepsFrom N (B.putObj (N + 1) (.loop (R .busy none))) C → SameAt Y (B.putObj (N + 1) (.loop (R .busy none))) C →
        (Instr.endRound (N + 1) jump).run P C = .ok (.bool jump.isNone) (C.putObj (N + 1) (.loop (R (if jump.isNone then .ready else .done) jump))) ∧ C.heap[N + 1]? = some (.loop (R .busy none)) ∧ C.heap[N]? = some (.deferred (some [])) ∧
        SameAt Y A (C.putObj (N + 1) (.loop (R (if jump.isNone then .ready else .done) jump))) ∧ A.heap.size ≤ (C.putObj (N + 1) (.loop (R (if jump.isNone then .ready else .done) jump))).heap.size := by
      intro jump C hk hyc
      have hl3 := hk.same _ _ (by omega) hlC rfl
      have hr := run_endRound (P := P) jump hl3
      rw [hR] at hr
      refine ⟨?_, hl3, hk.same _ _ (Nat.le_refl _) hdC rfl, ((hya.trans (turnY B _)).trans hyc).trans (turnY C _), ?_⟩
      · rw [hR]
        exact hr
      · have h3 := hka.size
        have h4 := hk.size
        simp at h4 ⊢
        omega
    rintro e a3 C hp
    cases e with
    | normal =>
      obtain ⟨hk, hyc, hi3⟩ := hp
      obtain ⟨hr, hl3, hd3, hyy, hsz⟩ := fin none C hk hyc
      obtain ⟨e1, e2⟩ := done none C .busy hl3 hd3 .ready
      exact ⟨_, _, hr, hyy, hsz, .inl ⟨rfl, ⟨hI _ _ _ hi3 (Mild.of_put hl3 rfl (by omega) _), e1⟩, e2⟩⟩
    | ret =>
      obtain ⟨hk, hyc, hi3⟩ := hp
      obtain ⟨hr, hl3, hd3, hyy, hsz⟩ := fin (some .ret) C hk hyc
      obtain ⟨e1, e2⟩ := done (some .ret) C .busy hl3 hd3 .done
      exact ⟨_, _, hr, hyy, hsz, .inr ⟨rfl, .ret, ⟨hIx _ _ _ _ hi3 (Mild.of_put hl3 rfl (by omega) _), e1⟩, e2⟩⟩
    | exit id =>
      obtain ⟨hk, hyc, hi3⟩ := hp
      obtain ⟨hr, hl3, hd3, hyy, hsz⟩ := fin (some (.exit id)) C hk hyc
      obtain ⟨e1, e2⟩ := done (some (.exit id)) C .busy hl3 hd3 .done
      exact ⟨_, _, hr, hyy, hsz, .inr ⟨rfl, .exit id, ⟨hIx _ _ _ _ hi3 (Mild.of_put hl3 rfl (by omega) _), e1⟩, e2⟩⟩
    | goto t =>
      obtain ⟨hk, hyc, hi3⟩ := hp
      obtain ⟨hr, hl3, hd3, hyy, hsz⟩ := fin (some (.goto t)) C hk hyc
      obtain ⟨e1, e2⟩ := done (some (.goto t)) C .busy hl3 hd3 .done
      exact ⟨_, _, hr, hyy, hsz, .inr ⟨rfl, .goto t, ⟨hIx _ _ _ _ hi3 (Mild.of_put hl3 rfl (by omega) _), e1⟩, e2⟩⟩
    | panic ch => exact hp.elim
    | outgrown => exact hp.elim
  · -- behind it
    rintro e W2 ⟨⟨v, rfl⟩, ⟨xs, hs, ⟨hi, hl⟩, hd⟩ | ⟨xs, hs, c, ⟨hi, hl⟩, hd⟩⟩
    · have hr := run_endLoop (P := P) hl (by rw [hR]; simp)
      rw [hR] at hr
      exact ⟨none, _, hr, hdone _ xs _ (Nat.le_refl _) (hS _ _ _ hs (turnY W2 _)) (hI _ _ _ hi (Mild.of_put hl rfl (by omega) _)) ((World.putObj_heap_other (by omega)).trans hd)⟩
    · have hr := run_endLoop (P := P) hl (by rw [hR]; simp)
      rw [hR] at hr
      exact ⟨some c, _, hr, hstop _ c xs _ (Nat.le_refl _) (hSx _ _ _ hs (turnY W2 _)) (hIx _ _ _ _ hi (Mild.of_put hl rfl (by omega) _)) ((World.putObj_heap_other (by omega)).trans hd)⟩

/-- .. whose first variable is boxed: the assign code lays one block a round. -/
theorem range_turns_boxed {α : Type} {g : Operand} {ps : Array Tmp} {assign body : Code} {Q : Exit → Act → World → Prop} {a : Act} {w : World}
    (hro : F.round = none) (h1 : 1 ≤ n) {gf : Nat} {lb : Array Value} (hg : a.eval g = .func (.func gf) #[] lb) (hFg : F.fn gf) (eg : ∀ args w, (callFunc gf args).run P w = .ok (.enter gf args) w)
    {encs : α → Array Value} {X Y : List Nat} {Sp : List α → Prop} {S Sx : List α → World → Prop} (hX : ∀ k ∈ X, k < w.heap.size) (hY : ∀ k ∈ Y, k < w.heap.size)
    (hseq : TurnSeq F (n - 1) P gf lb encs X Y Sp S Sx w) (hps : ∀ x, (encs x).size = ps.size)
    (hS : ∀ xs A B, S xs A → SameAt Y A B → S xs B) (hSx : ∀ xs A B, Sx xs A → SameAt Y A B → Sx xs B)
    (I : List α → World → Prop) (Ix : Code → List α → World → Prop) (hI : ∀ xs A B, I xs A → Mild X w.heap.size A B → I xs B) (hIx : ∀ c xs A B, Ix c xs A → Mild [] w.heap.size A B → Ix c xs B) (h0 : I [] w)
    (hsz : ∀ xs W, I xs W → w.heap.size ≤ W.heap.size) (t : TypeId) (cs : α → Array Value) (a₁ : α → Nat → Act)
    (hassign : ∀ (l : Nat) (x : α) (Bk : Nat) (W : World) (K : Act → World → Prop), W.heap.size = Bk → K (a₁ x Bk) (W.alloc (.cells (cs x) t)) →
      assign.wpIn (F.inRound l) (n - 1 - 1) P (Exit.then K (fun _ _ _ => False)) { tmps := (ps.zip (encs x)).foldl (fun t (p, v) => t.setIfInBounds p v) a.tmps, defers := [] } W)
    (hbody : ∀ (l : Nat) (pre : List α) (x : α) (Bk : Nat) (W : World), W.heap[Bk]? = some (.cells (cs x) t (0, 0)) → w.heap.size ≤ Bk → I pre W → Sp (pre ++ [x]) → body.wpIn (F.inRound l) (n - 1 - 1) P (leftPost w.heap.size Y I Ix (pre ++ [x]) W) (a₁ x Bk) W)
    (hdone : ∀ (D : Nat) (xs : List α) (W : World), w.heap.size ≤ D → S xs W → I xs W → W.heap[D]? = some (.deferred (some [])) → Q .normal { a with defers := { target := .collected D, args := #[] } :: a.defers } W)
    (hstop : ∀ (D : Nat) (c : Code) (xs : List α) (W : World), w.heap.size ≤ D → Sx xs W → Ix c xs W → W.heap[D]? = some (.deferred (some [])) → c.wpIn F n P Q { a with defers := { target := .collected D, args := #[] } :: a.defers } W) :
    (Code.rangeFunc g ps assign body).wpIn F n P Q a w := by
  refine range_turns hro h1 hg hFg eg hX hY hseq hps hS hSx I Ix hI hIx h0 (fun x a' W => ∃ Bk, W.heap[Bk]? = some (.cells (cs x) t (0, 0)) ∧ w.heap.size ≤ Bk ∧ a' = a₁ x Bk) ?_ ?_ ?_ hdone hstop
  · rintro x a' A B ⟨k, hk, hb, rfl⟩ m
    exact ⟨k, m.same k _ hk (by simp) (.inr rfl), hb, rfl⟩
  · intro l pre x W K hi hK
    have hs := hsz _ _ hi
    exact hassign l x W.heap.size W K rfl (hK _ _ ((KeepsOthers.alloc _ _).from _) (fun k hk => Below.heap_alloc W _ k (by have := hY k hk; omega)) (hI _ _ _ hi (Mild.of_turned (((Turned.refl [] W).alloc _).mono (fun k hk => by simp at hk)))) ⟨W.heap.size, heap_alloc_new W _, hs, rfl⟩)
  · rintro l pre x a' W hi ⟨k, hk, hb, rfl⟩ hsp
    exact hbody l pre x k W hk hb hi hsp

/-- .. whose variables lie in slots: the assign code turns no memory. -/
theorem range_turns_plain {α : Type} {g : Operand} {ps : Array Tmp} {assign body : Code} {Q : Exit → Act → World → Prop} {a : Act} {w : World}
    (hro : F.round = none) (h1 : 1 ≤ n) {gf : Nat} {lb : Array Value} (hg : a.eval g = .func (.func gf) #[] lb) (hFg : F.fn gf) (eg : ∀ args w, (callFunc gf args).run P w = .ok (.enter gf args) w)
    {encs : α → Array Value} {X Y : List Nat} {Sp : List α → Prop} {S Sx : List α → World → Prop} (hX : ∀ k ∈ X, k < w.heap.size) (hY : ∀ k ∈ Y, k < w.heap.size)
    (hseq : TurnSeq F (n - 1) P gf lb encs X Y Sp S Sx w) (hps : ∀ x, (encs x).size = ps.size)
    (hS : ∀ xs A B, S xs A → SameAt Y A B → S xs B) (hSx : ∀ xs A B, Sx xs A → SameAt Y A B → Sx xs B)
    (I : List α → World → Prop) (Ix : Code → List α → World → Prop) (hI : ∀ xs A B, I xs A → Mild X w.heap.size A B → I xs B) (hIx : ∀ c xs A B, Ix c xs A → Mild [] w.heap.size A B → Ix c xs B) (h0 : I [] w)
    (a₁ : α → Act)
    (hassign : ∀ (l : Nat) (x : α) (W : World) (K : Act → World → Prop), K (a₁ x) W →
      assign.wpIn (F.inRound l) (n - 1 - 1) P (Exit.then K (fun _ _ _ => False)) { tmps := (ps.zip (encs x)).foldl (fun t (p, v) => t.setIfInBounds p v) a.tmps, defers := [] } W)
    (hbody : ∀ (l : Nat) (pre : List α) (x : α) (W : World), I pre W → Sp (pre ++ [x]) → body.wpIn (F.inRound l) (n - 1 - 1) P (leftPost w.heap.size Y I Ix (pre ++ [x]) W) (a₁ x) W)
    (hdone : ∀ (D : Nat) (xs : List α) (W : World), w.heap.size ≤ D → S xs W → I xs W → W.heap[D]? = some (.deferred (some [])) → Q .normal { a with defers := { target := .collected D, args := #[] } :: a.defers } W)
    (hstop : ∀ (D : Nat) (c : Code) (xs : List α) (W : World), w.heap.size ≤ D → Sx xs W → Ix c xs W → W.heap[D]? = some (.deferred (some [])) → c.wpIn F n P Q { a with defers := { target := .collected D, args := #[] } :: a.defers } W) :
    (Code.rangeFunc g ps assign body).wpIn F n P Q a w := by
  refine range_turns hro h1 hg hFg eg hX hY hseq hps hS hSx I Ix hI hIx h0 (fun x a' _ => a' = a₁ x) (fun _ _ _ _ h _ => h) ?_ ?_ hdone hstop
  · intro l pre x W K hi hK
    exact hassign l x W K (hK _ _ (KeepsFrom.refl _ _) (SameAt.refl _ _) hi rfl)
  · rintro l pre x a' W hi rfl hsp
    exact hbody l pre x W hi hsp
end Go.Proofs.Ytmcfjlkjijaflaa
