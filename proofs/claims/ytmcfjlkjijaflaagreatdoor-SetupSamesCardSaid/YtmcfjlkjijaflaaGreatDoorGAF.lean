/-
  The document's Same of programs.
  What Words answers; a row of words that grows.
  What Print answers; how long words are.
-/
import Derived.Test.YtmcfjlkjijaflaaGreatDoorGAE
import Derived.Deep.QuietTactic
import Derived.BigQuiet
import Derived.Test.YtmcfjlkjijaflaaGreatDoorGAA

/- The document's Same of programs. -/
namespace Go.Proofs.YtmcfjlkjijaflaaGreatDoor
open Go.RowKit

theorem neq_ops (a1 b1 c1 a2 b2 c2 : Int) : ((a1, b1, c1) : Opn) ≠ (a2, b2, c2) → ¬ (a1 = a2 ∧ b1 = b2 ∧ c1 = c2) := by
  rintro h ⟨rfl, rfl, rfl⟩
  exact h rfl
theorem ops_eq {A B : List Opn} (hl : A.length = B.length) (h : ∀ i (h1 : i < A.length) (h2 : i < B.length), A[i] = B[i]) : A = B := List.ext_getElem hl h
/-- Are they the same? -/
def eqR (p q : Prg) : Bool := decide (p = q)
set_option maxRecDepth 100000 in
set_option maxHeartbeats 3200000 in
theorem rsame_any (f g : Bool) (ao1 ao2 : Option Addr) (b1 o1 b2 o2 c1 c2 : Nat) (A B : List Opn) (w : World) (hA : OArg w ao1 b1 o1 A) (hB : OArg w ao2 b2 o2 B) (hm : A.length ≤ 100000) (hm2 : B.length ≤ 100000) :
    Calls Tryz.prog 35 #[prgV f ao1 A.length c1, prgV g ao2 B.length c2] w fun e w' => e = .returned (.bool (eqR (f, A) (g, B))) ∧ Below w.heap.size w w' := by
  have HA := Lib.hid hA
  have HB := Lib.hid hB
  obtain ⟨n, hn⟩ : ∃ n, A.length = n := ⟨_, rfl⟩
  obtain ⟨m, hm'⟩ : ∃ m, B.length = m := ⟨_, rfl⟩
  have HN := Lib.hid hn
  have HM := Lib.hid hm'
  rw [hn] at hm ⊢
  rw [hm'] at hm2 ⊢
  clear hA hB hn hm'
  by_cases hfg : f = g
  · subst hfg
    by_cases hnm : n = m
    · subst hnm
      obtain ⟨r, hr⟩ : ∃ r, eqR (f, A) (f, B) = r := ⟨_, rfl⟩
      have HR := Lib.hid hr
      rw [hr]
      clear hr
      have hff : (f != f) = false := by simp
      go_enter Tryz.func35, Tryz.ntmps35
      go_wp2
      go_loopw [5] (fun i' wr => ∃ i : Nat, i ≤ n ∧ i' = .int .i64 i ∧ Hid (Below w.heap.size w wr) ∧ wr.cell? ⟨w.heap.size, 1, none⟩ = some (.slice ao1 n c1) ∧ wr.cell? ⟨w.heap.size + 1, 1, none⟩ = some (.slice ao2 n c2) ∧ Hid (∀ j (h1 : j < A.length) (h2 : j < B.length), j < i → A[j] = B[j])) (fun i' _ => n - (intOf i').toNat)
      case atStart => exact ⟨0, Nat.zero_le _, rfl, ((Below.refl _ w).alloc (Nat.le_refl _) _).alloc (by simp) _, by simp, by simp, fun j _ _ hj => absurd hj (Nat.not_lt_zero _)⟩
      case round =>
        obtain ⟨i, hi, rfl, HW, d1, d2, HO⟩ := hrel
        by_cases hlt : i < n
        · have h1 : i < A.length := by rw [HN.out]; exact hlt
          have h2 : i < B.length := by rw [HM.out]; exact hlt
          have hA := HA.out.below HW.out
          have hB := HB.out.below HW.out
          obtain ⟨rfl, hb1⟩ := hA.at_ (by omega)
          obtain ⟨rfl, hb2⟩ := hB.at_ (by omega)
          obtain ⟨x0, x1, x2⟩ := hA.cells i h1
          obtain ⟨y0, y1, y2⟩ := hB.cells i h2
          by_cases heq : A[i] = B[i]
          · have HO2 : Hid (∀ j (h1 : j < A.length) (h2 : j < B.length), j < i + 1 → A[j] = B[j]) := Lib.hid (fun j k1 k2 hji => by
              rcases Nat.lt_or_ge j i with h | h
              · exact HO.out j k1 k2 h
              · have : j = i := by omega
                subst this
                exact heq)
            rw [← heq] at y0 y1 y2
            obtain ⟨⟨k, a, c⟩, hx⟩ : ∃ x, A[i] = x := ⟨_, rfl⟩
            rw [hx] at x0 x1 x2 y0 y1 y2
            simp only at x0 x1 x2 y0 y1 y2
            clear hx heq hA hB
            go_wp2_with fail
            go_quiet (fail)
            go_wp2
            go_roundw
            case rel => exact ⟨i + 1, by omega, by go_num, Lib.hid (below_drewN HW.out _), d1, d2, HO2⟩
            case measure => simp [intOf]; omega
          · have HE : Hid (r = false) := Lib.hid (HR.out.symm.trans (by
              unfold eqR
              simp only [decide_eq_false_iff_not, Prod.mk.injEq, true_and]
              intro h
              apply heq
              have : ∀ (C : List Opn) (h : A = C) (h2 : i < C.length), A[i] = C[i] := by rintro C rfl h2; rfl
              exact this B h h2))
            obtain ⟨⟨k, a, c⟩, hx⟩ : ∃ x, A[i] = x := ⟨_, rfl⟩
            obtain ⟨⟨k2, a2, c2'⟩, hy⟩ : ∃ x, B[i] = x := ⟨_, rfl⟩
            rw [hx] at x0 x1 x2 heq
            rw [hy] at y0 y1 y2 heq
            simp only at x0 x1 x2 y0 y1 y2
            have hne := neq_ops _ _ _ _ _ _ heq
            clear hx hy heq hA hB
            have hw : k ≠ k2 ∨ (k = k2 ∧ a ≠ a2) ∨ (k = k2 ∧ a = a2 ∧ c ≠ c2') := by omega
            clear hne
            rcases hw with hw | ⟨rfl, hw⟩ | ⟨rfl, rfl, hw⟩
            · have hwb : (k == k2) = false := by simpa using hw
              go_wp2_with fail
              go_quiet (fail)
              go_wp2
              go_ret
              exact ⟨congrArg (fun x => Ending.returned (.bool x)) HE.out.symm, below_drewN HW.out _⟩
            · have hwb : (a == a2) = false := by simpa using hw
              go_wp2_with fail
              go_quiet (fail)
              go_wp2
              go_ret
              exact ⟨congrArg (fun x => Ending.returned (.bool x)) HE.out.symm, below_drewN HW.out _⟩
            · have hwb : (c == c2') = false := by simpa using hw
              go_wp2_with fail
              go_quiet (fail)
              go_wp2
              go_ret
              exact ⟨congrArg (fun x => Ending.returned (.bool x)) HE.out.symm, below_drewN HW.out _⟩
        · have HE : Hid (r = true) := Lib.hid (HR.out.symm.trans (by
            unfold eqR
            simp only [decide_eq_true_eq, Prod.mk.injEq, true_and]
            exact ops_eq (HN.out.trans HM.out.symm) (fun j k1 k2 => HO.out j k1 k2 (by have := HN.out; omega))))
          go_wp2
          go_ret
          exact ⟨congrArg (fun x => Ending.returned (.bool x)) HE.out.symm, HW.out⟩
    · have e : eqR (f, A) (f, B) = false := by
        unfold eqR
        simp only [decide_eq_false_iff_not, Prod.mk.injEq, true_and]
        rintro rfl
        exact hnm (HN.out.symm.trans HM.out)
      rw [e]
      have hnb : ((n : Int) == m) = false := by simp; omega
      have hff : (f != f) = false := by simp
      go_enter Tryz.func35, Tryz.ntmps35
      go_wp2
      go_ret
      refine ⟨rfl, ?_⟩
      exact ((Below.refl _ w).alloc (Nat.le_refl _) _).alloc (by simp) _
  · have e : eqR (f, A) (g, B) = false := by
      unfold eqR
      simp only [decide_eq_false_iff_not, Prod.mk.injEq]
      exact fun h => hfg h.1
    rw [e]
    have hfg2 : (f != g) = true := by simpa using hfg
    go_enter Tryz.func35, Tryz.ntmps35
    go_wp2
    go_ret
    refine ⟨rfl, ?_⟩
    exact ((Below.refl _ w).alloc (Nat.le_refl _) _).alloc (by simp) _
end Go.Proofs.YtmcfjlkjijaflaaGreatDoor

/- What Words answers; a row of words that grows. -/
namespace Go.Proofs.YtmcfjlkjijaflaaGreatDoor
open Go.RowKit

/-- The words so far: a row; the program's box. -/
structure WI (w wr : World) (v : Value) (ws : List Wd) (pv : Array Value) : Prop where
  row : WRow w.heap.size wr v ws
  bel : Below w.heap.size w wr
  box : wr.heap[w.heap.size]? = some (.cells pv 51 (0, 0))
  siz : w.heap.size < wr.heap.size
theorem WI.more {w wr wr' : World} {v : Value} {ws : List Wd} {pv : Array Value} (h : WI w wr v ws pv) (hb : Below wr.heap.size wr wr') : WI w wr' v ws pv :=
  ⟨row_below h.row hb, h.bel.trans (hb.mono (Nat.le_of_lt h.siz)), (hb.block _ h.siz).trans h.box, Nat.lt_of_lt_of_le h.siz hb.size⟩
theorem WI.kept {w wx w4 : World} {v : Value} {ws : List Wd} {pv : Array Value} (h : WI w wx v ws pv) (hg : wx.grownBy w4 v.ownBlock) {k : Nat} {cs : Array Value} {t : TypeId}
    (hk : wx.heap[k]? = some (.cells cs t (0, 0))) (ht : t ≠ 72) : w4.heap[k]? = some (.cells cs t (0, 0)) :=
  (hg.block k (lt_of_block hk) (block_off hk h.row ht)).trans hk
theorem WI.push {w wx w4 : World} {v v' : Value} {ws : List Wd} {x : Wd} {pv : Array Value} (h : WI w wx v ws pv)
    (hown : w4.ownsRow w.heap.size 72 4 v' (ws.length + 1) (wdsC ws ++ wdC x)) (hg : wx.grownBy w4 v.ownBlock) : WI w w4 v' (ws ++ [x]) pv := by
  have hb : Below w.heap.size wx w4 := app_below (Below.refl _ _) (Nat.le_of_lt h.siz) (Nat.le_refl _) h.row hg
  refine ⟨?_, h.bel.trans hb, h.kept hg h.box (by decide), Nat.lt_of_lt_of_le h.siz hb.size⟩
  unfold WRow
  rw [wdsC_snoc, List.length_append, List.length_singleton]
  exact hown
theorem first_row (w1 : World) (base : Nat) (hb : base ≤ w1.heap.size) (a b c d : Value) (x : Wd) (h : wdC x = [a, b, c, d]) :
    WRow base (w1.alloc (.cells #[a, b, c, d] 72)) (.slice (some ⟨w1.heap.size, 0, none⟩) 1 1) [x] := by
  refine ⟨by rw [wdsC_len], .inr ⟨_, 1, _, rfl, hb, heap_alloc_new _ _, Nat.le_refl _, by decide, rfl, ?_⟩⟩
  simp only [wdsC, List.flatMap_cons, List.flatMap_nil, List.append_nil, h]
  rfl
theorem WI.first (w : World) (x : Wd) (pv : Array Value) (a b c d : Value) (h : wdC x = [a, b, c, d]) :
    WI w ((w.alloc (.cells pv 51)).alloc (.cells #[a, b, c, d] 72)) (.slice (some ⟨w.heap.size + 1, 0, none⟩) 1 1) [x] pv := by
  have hs : (w.alloc (.cells pv 51)).heap.size = w.heap.size + 1 := by simp
  refine ⟨?_, ((Below.refl _ w).alloc (Nat.le_refl _) _).alloc (by simp) _, (Below.heap_alloc _ _ _ (by simp)).trans (heap_alloc_new w _), by simp; omega⟩
  rw [← hs]
  exact first_row _ _ (by simp) a b c d x h
theorem word_ones (a : Int) (t : ByteArray) (c d : Int) : ∀ u ∈ [Value.int .i64 a, .string t, .int .i64 c, .int .i64 d], u.oneCell' = true := by
  intro u hu
  simp only [List.mem_cons, List.not_mem_nil, or_false] at hu
  rcases hu with rfl | rfl | rfl | rfl <;> rfl
theorem word_at {W : World} {g : Nat} (hg : W.heap.size = g) (a b c d : Value) (t : TypeId) : ∀ (j : Nat) (u : Value), [a, b, c, d][j]? = some u → (W.alloc (.cells #[a, b, c, d] t)).cell? ((⟨g, 0, none⟩ : Addr).add j) = some u := by
  subst hg
  exact word_new W a b c d t
/-- What Words answers. -/
def WordsP (ws : List Wd) (w : World) (e : Ending) (w' : World) : Prop := ∃ v, e = .returned v ∧ WRow w.heap.size w' v ws ∧ Below w.heap.size w w'
def headR (f : Bool) : List Wd := (1, progB, 0, 0) :: ((if f then [(1, foreverB, 0, 0)] else []) ++ [(3, [123], 0, 0)])
theorem words_head (f : Bool) (L : List Opn) : wordsR (f, L) = headR f ++ L.flatMap opW ++ [(3, [125], 0, 0)] := by
  cases f <;> simp [wordsR, headR]
theorem take_next {L : List Opn} {i : Nat} (h : i < L.length) (pre : List Wd) : pre ++ (L.take (i + 1)).flatMap opW = pre ++ (L.take i).flatMap opW ++ opW L[i] := by
  have e : L.take (i + 1) = L.take i ++ [L[i]] := (List.take_append_getElem h).symm
  have e1 : [L[i]].flatMap opW = opW L[i] := by simp only [List.flatMap_cons, List.flatMap_nil, List.append_nil]
  rw [e, List.flatMap_append, e1, ← List.append_assoc]
end Go.Proofs.YtmcfjlkjijaflaaGreatDoor

/- What Print answers; how long words are. -/
namespace Go.Proofs.YtmcfjlkjijaflaaGreatDoor
open Go.RowKit

def PrintP (r : List By × Int) (w : World) (e : Ending) (w' : World) : Prop := e = .returned (.tuple #[.string ⟨r.1.toArray⟩, .int .i64 r.2]) ∧ Below w.heap.size w w'
theorem name_len (k : Int) : (nameR k).length ≤ 40 := by
  by_cases h : nameR k = []
  · rw [h]; decide
  · rcases name_kinds h with h | h | h | h | h | h | h | h | h | h | h <;> subst h <;> decide
theorem opW_len (o : Opn) : (opW o).length ≤ 4 := by
  unfold opW
  split <;> split <;> simp
theorem opW_short (o : Opn) : ∀ x ∈ opW o, x.2.1.length ≤ 40 := by
  intro x hx
  unfold opW at hx
  simp only [List.mem_cons, List.mem_append, List.not_mem_nil, or_false] at hx
  rcases hx with rfl | hx | hx | rfl
  · exact name_len _
  · split at hx
    · simp only [List.mem_cons, List.not_mem_nil, or_false] at hx; subst hx; exact Nat.zero_le _
    · simp at hx
  · split at hx
    · simp only [List.mem_cons, List.not_mem_nil, or_false] at hx; subst hx; exact Nat.zero_le _
    · simp at hx
  · decide
theorem opsW_len : ∀ L : List Opn, (L.flatMap opW).length ≤ L.length * 4
  | [] => Nat.le_refl _
  | o :: L => by
    have := opsW_len L
    have := opW_len o
    simp only [List.flatMap_cons, List.length_append, List.length_cons]
    omega
theorem words_len {p : Prg} (h : mayR p = true) : (wordsR p).length ≤ 60 := by
  obtain ⟨f, L⟩ := p
  simp only [mayR, Bool.and_eq_true, decide_eq_true_eq] at h
  have := opsW_len L
  rw [words_head]
  simp only [List.length_append, List.length_cons, List.length_nil]
  have : (headR f).length ≤ 3 := by cases f <;> decide
  omega
theorem words_short (p : Prg) : ∀ x ∈ wordsR p, x.2.1.length ≤ 40 := by
  obtain ⟨f, L⟩ := p
  intro x hx
  rw [words_head] at hx
  simp only [List.mem_append, List.mem_cons, List.not_mem_nil, or_false] at hx
  rcases hx with (hx | hx) | rfl
  · cases f <;> simp [headR] at hx
    · rcases hx with rfl | rfl <;> decide
    · rcases hx with rfl | rfl | rfl <;> decide
  · obtain ⟨o, _, ho⟩ := List.mem_flatMap.1 hx
    exact opW_short o x ho
  · decide
end Go.Proofs.YtmcfjlkjijaflaaGreatDoor
