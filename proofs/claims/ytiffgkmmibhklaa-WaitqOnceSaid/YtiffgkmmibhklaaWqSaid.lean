/-
  What is to be said of the program's waiters, for the laws of stage 8.
-/
import Derived.Test.YtiffgkmmibhklaaWqInts
import Derived.Test.YtiffgkmmibhklaaWqDue
import Derived.Test.YtiffgkmmibhklaaGA
namespace Go.Proofs.Ytiffgkmmibhklaa
open Go.RowKit

/-- Off a place, or nothing. -/
def takW (L : List Wt) (i : Int) : Wt := if i < 0 then (0, 0, 0) else L.getD i.toNat (0, 0, 0)
def takLW (L : List Wt) (i : Int) : List Wt := if i < 0 then L else L.eraseIdx i.toNat
/-- Who waits for a key. -/
def forK (L : List Wt) (a : Int) : List Wt := L.filter fun x => decide (x.2.1 = a)
theorem forK_len (L : List Wt) (a : Int) : (forK L a).length = cntK L a := rfl
/-- Those whose time is over, in order, at most k; who waits still. -/
def dueP (L : List Wt) (now : Int) : Int := dueI L now L.length
def dueO (now : Int) : Nat → List Wt → List Wt
  | 0, _ => []
  | k + 1, L => if dueP L now < 0 then [] else L.getD (dueP L now).toNat (0, 0, 0) :: dueO now k (L.eraseIdx (dueP L now).toNat)
def dueR (now : Int) : Nat → List Wt → List Wt
  | 0, L => L
  | k + 1, L => if dueP L now < 0 then L else dueR now k (L.eraseIdx (dueP L now).toNat)
theorem dueP_range (L : List Wt) (now : Int) : -1 ≤ dueP L now ∧ dueP L now < L.length := dueI_range L now L.length
theorem due_none {now : Int} {L : List Wt} (h : dueP L now < 0) : ∀ k, dueO now k L = [] ∧ dueR now k L = L
  | 0 => ⟨rfl, rfl⟩
  | k + 1 => by simp [dueO, dueR, h]
theorem due_some {now : Int} {L : List Wt} {j : Nat} (h : dueP L now = j) (k : Nat) : dueO now (k + 1) L = L.getD j (0, 0, 0) :: dueO now k (L.eraseIdx j) ∧ dueR now (k + 1) L = dueR now k (L.eraseIdx j) := by
  have h0 : ¬ dueP L now < 0 := by omega
  simp only [dueO, dueR]
  rw [if_neg h0, if_neg h0, h, Int.toNat_natCast]
  exact ⟨rfl, rfl⟩
/-- All of them. -/
def dueA (now : Int) (L : List Wt) : List Wt := dueO now L.length L
theorem dueR_len (now : Int) : ∀ (k : Nat) (L : List Wt), (dueR now k L).length ≤ L.length
  | 0, L => Nat.le_refl _
  | k + 1, L => by
    simp only [dueR]
    split
    · exact Nat.le_refl _
    · refine Nat.le_trans (dueR_len now k _) ?_
      rw [List.length_eraseIdx]
      split <;> omega
/-- The next one of them. -/
theorem due_next {now : Int} : ∀ {q : Nat} {pre : List Wt} {x : Wt} {L : List Wt}, (pre ++ [x]) <+: dueO now q L →
    ∃ j : Nat, dueP (dueR now pre.length L) now = j ∧ (dueR now pre.length L).getD j (0, 0, 0) = x ∧ j < (dueR now pre.length L).length ∧ dueR now (pre.length + 1) L = (dueR now pre.length L).eraseIdx j
  | 0, pre, x, L, h => by
    simp [dueO] at h
  | q + 1, pre, x, L, h => by
    by_cases h0 : dueP L now < 0
    · rw [(due_none h0 (q + 1)).1] at h
      simp at h
    · obtain ⟨j, hj⟩ := Int.eq_ofNat_of_zero_le (show 0 ≤ dueP L now by omega)
      obtain ⟨e1, e2⟩ := due_some hj q
      rw [e1] at h
      cases pre with
      | nil =>
        rw [List.nil_append, List.cons_prefix_cons] at h
        have hjl := (dueP_range L now).2
        refine ⟨j, hj, h.1.symm, by show j < L.length; omega, ?_⟩
        show dueR now (0 + 1) L = L.eraseIdx j
        rw [(due_some hj 0).2]
        rfl
      | cons p pre =>
        rw [List.cons_append, List.cons_prefix_cons] at h
        obtain ⟨i, h1, h2, h3, h4⟩ := due_next h.2
        have e : ∀ k, dueR now (k + 1) L = dueR now k (L.eraseIdx j) := fun k => (due_some hj k).2
        exact ⟨i, by rw [List.length_cons, e]; exact h1, by rw [List.length_cons, e]; exact h2, by rw [List.length_cons, e]; exact h3, by rw [List.length_cons, e, e]; exact h4⟩
/-- Behind all of them nobody's time is over. -/
theorem due_end (now : Int) : ∀ (q : Nat) (L : List Wt), L.length ≤ q → dueP (dueR now (dueO now q L).length L) now < 0
  | 0, L, h => by
    have : L = [] := List.eq_nil_of_length_eq_zero (by omega)
    subst this
    simp [dueO, dueR, dueP, dueI]
  | q + 1, L, h => by
    by_cases h0 : dueP L now < 0
    · rw [(due_none h0 (q + 1)).1]
      exact h0
    · obtain ⟨j, hj⟩ := Int.eq_ofNat_of_zero_le (show 0 ≤ dueP L now by omega)
      obtain ⟨e1, e2⟩ := due_some hj q
      rw [e1, List.length_cons, (due_some hj _).2]
      refine due_end now q _ ?_
      have hjl := (dueP_range L now).2
      rw [List.length_eraseIdx, if_pos (by omega)]
      omega

/-- Numbers as they may be. -/
def isI (i : Int) : Prop := -9223372036854775808 ≤ i ∧ i ≤ 9223372036854775807
def wfW (x : Wt) : Prop := isI x.1 ∧ isI x.2.1 ∧ 0 ≤ x.2.2 ∧ x.2.2 < 18446744073709551616
abbrev encY (x : Wt) : Array Value := #[aggW x]

/-- Block b holds the program's table: room m in all, e for a key; L: who waits, in the order of each key; X: its blocks; c: how much has been done to it. -/
structure WqSaid where
  At : World → Nat → List Nat → Int → Int → Nat → List Wt → Prop
  same : ∀ {w w' : World} {b : Nat} {X : List Nat} {m e : Int} {c : Nat} {L : List Wt}, At w b X m e c L → SameAt X w w' → At w' b X m e c L
  lt : ∀ {w : World} {b : Nat} {X : List Nat} {m e : Int} {c : Nat} {L : List Wt}, At w b X m e c L → ∀ k ∈ X, k < w.heap.size
  new : ∀ (k m e : Int) (w : World), isI k → Calls Try.prog 6 #[.int .i64 k, .int .i64 m, .int .i64 e] w fun r w' => ∃ b X, r = .returned (.pointer (some ⟨b, 0, none⟩)) ∧
    At w' b X (min (max m 0) 4096) (min (max e 0) 4096) 0 [] ∧ Turned [] w w' ∧ ∀ k ∈ X, w.heap.size ≤ k
  len : ∀ {w : World} {b : Nat} {X : List Nat} {m e : Int} {c : Nat} {L : List Wt}, At w b X m e c L → Calls Try.prog 23 #[.pointer (some ⟨b, 0, none⟩)] w fun r w' => r = .returned (.int .i64 (L.length : Nat)) ∧ ∃ n, w' = w.drewN n
  count : ∀ {w : World} {b : Nat} {X : List Nat} {m e : Int} {c : Nat} {L : List Wt} (a : Int), At w b X m e c L → isI a → Calls Try.prog 24 #[.pointer (some ⟨b, 0, none⟩), .int .i64 a] w fun r w' =>
    r = .returned (.int .i64 (cntK L a : Nat)) ∧ Turned [] w w'
  wait : ∀ {w : World} {b : Nat} {X : List Nat} {m e : Int} {c : Nat} {L : List Wt} (x : Wt), At w b X m e c L → wfW x → L.length ≤ 100 → c ≤ 90000 →
    Calls Try.prog 8 #[.pointer (some ⟨b, 0, none⟩), aggW x] w fun r w' => r = .returned (.int .i64 (waitE m e L x)) ∧ ∃ X', At w' b X' m e (c + 100) (waitL m e L x) ∧ Turned X w w' ∧ Newer X w.heap.size X'
  wake : ∀ {w : World} {b : Nat} {X : List Nat} {m e : Int} {c : Nat} {L : List Wt} (a n : Int), At w b X m e c L → isI a → isI n → L.length ≤ 100 → c ≤ 90000 →
    Calls Try.prog 11 #[.pointer (some ⟨b, 0, none⟩), .int .i64 a, .int .i64 n] w fun r w' => ∃ v, r = .returned v ∧ w'.ownsRow w.heap.size 3 1 v (wakeO a n.toNat L).length (intsW (wakeO a n.toNat L)) ∧
      ∃ X', At w' b X' m e (c + 100) (wakeL a n.toNat L) ∧ Turned X w w' ∧ Newer X w.heap.size X'
  cancel : ∀ {w : World} {b : Nat} {X : List Nat} {m e : Int} {c : Nat} {L : List Wt} (a : Int), At w b X m e c L → isI a → L.length ≤ 100 → c ≤ 90000 →
    Calls Try.prog 13 #[.pointer (some ⟨b, 0, none⟩), .int .i64 a] w fun r w' => r = .returned (.tuple #[aggW (takW L (whoI L a)), .bool (decide (0 ≤ whoI L a))]) ∧
      ∃ X', At w' b X' m e (c + 100) (takLW L (whoI L a)) ∧ Turned X w w' ∧ Newer X w.heap.size X'
  requeue : ∀ {w : World} {b : Nat} {X : List Nat} {m e : Int} {c : Nat} {L : List Wt} (f t n : Int), At w b X m e c L → isI f → isI t → isI n → L.length ≤ 100 → c ≤ 90000 →
    Calls Try.prog 16 #[.pointer (some ⟨b, 0, none⟩), .int .i64 f, .int .i64 t, .int .i64 n] w fun r w' => r = .returned (.int .i64 (if f = t then 0 else reqN f t e n.toNat L : Nat)) ∧
      ∃ X', At w' b X' m e (c + 100) (if f = t then L else reqL f t e n.toNat L) ∧ Turned X w w' ∧ Newer X w.heap.size X'
  who : ∀ {w : World} {b : Nat} {X : List Nat} {m e : Int} {c : Nat} {L : List Wt} (a : Int), At w b X m e c L → isI a →
    Calls Try.prog 19 #[.pointer (some ⟨b, 0, none⟩), .int .i64 a] w fun r w' => r = .returned (.tuple #[aggW (takW L (whoI L a)), .bool (decide (0 ≤ whoI L a))]) ∧ Turned [] w w'
  of : ∀ {w : World} {b : Nat} {X : List Nat} {m e : Int} {c : Nat} {L : List Wt} (a : Int), At w b X m e c L → isI a → L.length ≤ 100 →
    Calls Try.prog 22 #[.pointer (some ⟨b, 0, none⟩), .int .i64 a] w fun r w' => ∃ f lb, r = .returned (.func (.func f) #[] lb) ∧ Turned [] w w' ∧ (∀ args W, (callFunc f args).run Try.prog W = .ok (.enter f args) W) ∧
      ∃ Z, (∀ k ∈ Z, k < w'.heap.size ∧ w.heap.size ≤ k) ∧ ∀ n, 1 ≤ n → TurnSeqZ Fence.wide n Try.prog f lb encY Z (fun xs => xs <+: forK L a) (fun xs _ _ => xs = forK L a) (fun xs _ _ => xs <+: forK L a) w'
  expire : ∀ {w : World} {b : Nat} {X : List Nat} {m e : Int} {c : Nat} {L : List Wt} (u : Int), At w b X m e c L → 0 ≤ u → u < 18446744073709551616 → L.length ≤ 100 → c ≤ 90000 →
    Calls Try.prog 21 #[.pointer (some ⟨b, 0, none⟩), .int .u64 u] w fun r w' => ∃ f lb, r = .returned (.func (.func f) #[] lb) ∧ Turned [] w w' ∧ (∀ args W, (callFunc f args).run Try.prog W = .ok (.enter f args) W) ∧
      ∃ Z, (∀ k ∈ Z, k < w'.heap.size ∧ (k ∈ X ∨ w.heap.size ≤ k)) ∧ ∀ n, 1 ≤ n → TurnSeqZ Fence.wide n Try.prog f lb encY Z (fun xs => xs <+: dueA u L)
        (fun xs Z' W => xs = dueA u L ∧ ∃ X', At W b X' m e (c + 100) (dueR u xs.length L) ∧ ∀ k ∈ X', k ∈ Z') (fun xs Z' W => xs <+: dueA u L ∧ ∃ X', At W b X' m e (c + 100) (dueR u xs.length L) ∧ ∀ k ∈ X', k ∈ Z') w'

section
variable (S : WqSaid) {w w' : World} {b : Nat} {X Y : List Nat} {m e : Int} {c : Nat} {L : List Wt}
theorem WqSaid.keep (h : S.At w b X m e c L) (t : Turned Y w w') (hd : ∀ k ∈ X, k ∉ Y) : S.At w' b X m e c L := S.same h fun k hk => t.block k (S.lt h k hk) (hd k hk)
theorem WqSaid.mild {N : Nat} (h : S.At w b X m e c L) (mm : Mild Y N w w') (hd : ∀ k ∈ X, k ∉ Y) (hN : ∀ k ∈ X, k < N) : S.At w' b X m e c L :=
  S.same h fun k hk => by
    have h1 := S.lt h k hk
    rw [mm.same k _ (Array.getElem?_eq_getElem h1) (hd k hk) (.inl (hN k hk)), Array.getElem?_eq_getElem h1]
end
end Go.Proofs.Ytiffgkmmibhklaa
