/-
  Numbers that come off a heap in order, each once. No program.
-/
import Derived.Test.YthhdidcmiiglbaaHbPops
namespace Go.Proofs.Ythhdidcmiiglbaa

/-- The first k numbers, their places for numbers. -/
def nums (F : Nat → Int) (k : Nat) : List (Hm Int) := (List.range k).map fun i => (F i, ((i : Nat) : Int), F i)
theorem nums_len (F : Nat → Int) (k : Nat) : (nums F k).length = k := by simp [nums]
theorem nums_succ (F : Nat → Int) (k : Nat) : nums F (k + 1) = nums F k ++ [(F k, (k : Int), F k)] := by simp [nums, List.range_succ]
theorem nums_mem {F : Nat → Int} {k : Nat} {x : Hm Int} (h : x ∈ nums F k) : ∃ i, i < k ∧ x = (F i, (i : Int), F i) := by
  simp only [nums, List.mem_map, List.mem_range] at h
  obtain ⟨i, hi, rfl⟩ := h
  exact ⟨i, hi, rfl⟩
theorem nums_ids (F : Nat → Int) (k : Nat) : ((nums F k).map fun z => z.2.1).Nodup := by
  have e : ((nums F k).map fun z => z.2.1) = (List.range k).map fun i => ((i : Nat) : Int) := by simp [nums, List.map_map, Function.comp_def]
  rw [e]
  exact List.Pairwise.map _ (fun a b h => by omega) List.nodup_range

/-- The key of the last one that came. -/
def lastK (xs : List (Hm Int)) : Int × Int := match xs.getLast? with
  | some x => (x.1, x.2.1)
  | none => (0, 0)
theorem lastK_nil : lastK [] = (0, 0) := rfl
theorem lastK_snoc (xs : List (Hm Int)) (x : Hm Int) : lastK (xs ++ [x]) = (x.1, x.2.1) := by simp [lastK]

theorem Pops.next {F : Nat → Int} {n : Nat} {u : Int} {pre D' : List (Hm Int)} {x : Hm Int} (h : Pops u (nums F n) (pre ++ [x]) D') :
    ∃ i, i < n ∧ x = (F i, (i : Int), F i) ∧ pre.length < n ∧ (0 < pre.length → KLt (lastK pre) (x.1, x.2.1)) := by
  have hm : x ∈ nums F n := h.perm.mem_iff.2 (List.mem_append_left _ (List.mem_append_right _ (List.mem_singleton.2 rfl)))
  obtain ⟨i, hi, hx⟩ := nums_mem hm
  have hl := h.len
  rw [nums_len] at hl
  simp at hl
  refine ⟨i, hi, hx, by omega, fun h0 => ?_⟩
  obtain ⟨ps, y, rfl⟩ : ∃ ps y, pre = ps ++ [y] := by
    have : pre ≠ [] := by rintro rfl; simp at h0
    exact ⟨pre.dropLast, pre.getLast this, (List.dropLast_concat_getLast this).symm⟩
  rw [lastK_snoc]
  have hids := nums_ids F n
  obtain ⟨D2, h2, p2, l2, _⟩ := h.split
  obtain ⟨D1, h1, p1, l1, _⟩ := h2.split
  have hp := h2.perm
  have hp2 : (nums F n).Perm (ps ++ [y] ++ (x :: D')) := hp.trans (List.Perm.append_left _ p2)
  have hn := (hp2.map fun z => z.2.1).nodup_iff.1 hids
  have hne : y.2.1 ≠ x.2.1 := by
    intro e
    simp only [List.append_assoc, List.map_append, List.map_cons, List.cons_append, List.nil_append] at hn
    have h3 := (List.nodup_append.1 hn).2.1
    rw [List.nodup_cons] at h3
    exact h3.1 (by simp [e])
  have hx1 : x ∈ D1 := p1.mem_iff.2 (List.mem_cons_of_mem _ (p2.mem_iff.2 (by simp)))
  have := l1 x hx1
  unfold KLt at this ⊢
  omega
theorem Pops.through {F : Nat → Int} {n : Nat} {u : Int} {xs D' : List (Hm Int)} (h : Pops u (nums F n) xs D') (hF : ∀ i, i < n → F i ≤ u) (ha : ∀ y ∈ D', u < y.1) : D' = [] ∧ xs.length = n := by
  have hnil : D' = [] := by
    cases D' with
    | nil => rfl
    | cons y D' =>
      exfalso
      have hm : y ∈ nums F n := h.perm.mem_iff.2 (List.mem_append_right _ (by simp))
      obtain ⟨i, hi, rfl⟩ := nums_mem hm
      have h1 := ha (F i, (i : Int), F i) (by simp)
      have h2 := hF i hi
      simp only at h1
      omega
  refine ⟨hnil, ?_⟩
  have hl := h.len
  rw [nums_len, hnil] at hl
  simpa using hl.symm
end Go.Proofs.Ythhdidcmiiglbaa
