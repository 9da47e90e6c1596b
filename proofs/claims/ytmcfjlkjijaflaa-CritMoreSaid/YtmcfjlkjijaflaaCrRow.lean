/-
  A row of locks; what more is allowed, plainly.
-/
import Derived.Test.YtmcfjlkjijaflaaCrSmall
import Derived.Test.YtmcfjlkjijaflaaLst
namespace Go.Proofs.Ytmcfjlkjijaflaa
open Go.RowKit

def lkC (x : Lk) : List Value := [.bool x.1, .int .i64 x.2.1, .int .i64 x.2.2.1, .int .i64 x.2.2.2.1, .int .i64 x.2.2.2.2]
theorem lkC_len (x : Lk) : (lkC x).length = 5 := rfl
theorem lkC_one (x : Lk) : ∀ u ∈ lkC x, u.oneCell' = true := by
  intro u hu
  simp only [lkC, List.mem_cons, List.not_mem_nil, or_false] at hu
  rcases hu with rfl | rfl | rfl | rfl | rfl <;> rfl
theorem lock_info : (Try.prog.info? 35).map (fun i => (i.zero, i.size, i.bytes)) = some (some (.agg #[.bool false, .int .i64 0, .int .i64 0, .int .i64 0, .int .i64 0]), 5, 40) := by kernel_rfl
/-- A row of locks. -/
abbrev LkRow (base : Nat) (w : World) (v : Value) (L : List Lk) : Prop := w.ownsRow base 35 5 v L.length (cellsOf lkC L)
theorem LArg.of_row {base : Nat} {w : World} {v : Value} {L : List Lk} (h : LkRow base w v L) : ∃ ao b cap, v = .slice ao L.length cap ∧ LArg w ao b 0 L := by
  by_cases h0 : 0 < L.length
  · obtain ⟨g, cap, rfl, _, _⟩ := ownsRow_pos h h0
    refine ⟨_, g, cap, rfl, fun _ => ⟨rfl, (h.lt g (by simp [Value.ownBlock])).2⟩, fun i hi => ?_⟩
    have hk : ∀ q, q < 5 → w.cell? ⟨g, 0 + i * 5 + q, none⟩ = (lkC L[i])[q]? := fun q hq => by
      rw [Nat.zero_add, h.cellAt _ (by omega)]
      exact cellsOf_get lkC_len L i q hi hq
    exact ⟨hk 0 (by omega), hk 1 (by omega), hk 2 (by omega), hk 3 (by omega), hk 4 (by omega)⟩
  · obtain ⟨ao, cap, rfl, _⟩ := ownsRow_shape h
    exact ⟨ao, 0, cap, rfl, fun h => absurd h h0, fun i hi => absurd (Nat.lt_of_le_of_lt (Nat.zero_le _) hi) h0⟩
theorem five_new (W : World) (a b c d e : Value) (t : TypeId) : ∀ (j : Nat) (u : Value), [a, b, c, d, e][j]? = some u → (W.alloc (.cells #[a, b, c, d, e] t)).cell? ((⟨W.heap.size, 0, none⟩ : Addr).add j) = some u := by
  intro j u hj
  rw [Addr.add_lit]
  match j, hj with
  | 0, hj | 1, hj | 2, hj | 3, hj | 4, hj =>
    simp at hj
    subst hj
    simp
theorem five_at {W : World} {g : Nat} (hg : W.heap.size = g) (a b c d e : Value) (t : TypeId) : ∀ (j : Nat) (u : Value), [a, b, c, d, e][j]? = some u → (W.alloc (.cells #[a, b, c, d, e] t)).cell? ((⟨g, 0, none⟩ : Addr).add j) = some u := by
  subst hg
  exact five_new W a b c d e t
theorem five_cells {w : World} {B : Nat} {a b c d e : Value} {t : TypeId} (h : w.heap[B]? = some (.cells #[a, b, c, d, e] t (0, 0))) :
    w.cell? ⟨B, 0, none⟩ = some a ∧ w.cell? ⟨B, 1, none⟩ = some b ∧ w.cell? ⟨B, 2, none⟩ = some c ∧ w.cell? ⟨B, 3, none⟩ = some d ∧ w.cell? ⟨B, 4, none⟩ = some e ∧ ∀ i, w.frozen? ⟨B, i, none⟩ = false :=
  ⟨by simp [World.cell?, h], by simp [World.cell?, h], by simp [World.cell?, h], by simp [World.cell?, h], by simp [World.cell?, h], fun i => frozen_of_row w B i _ t h⟩
/-- With more ticks allowed. -/
def upR (more : Int) (x : Lk) : Lk := (x.1, x.2.1, (max x.2.2.1 0).tmod 1000 + more + 1000, x.2.2.2.1, x.2.2.2.2)
theorem tmod_in (c : Int) : 0 ≤ (max c 0).tmod 1000 ∧ (max c 0).tmod 1000 < 1000 := by
  have h : 0 ≤ max c 0 := by omega
  rw [Int.tmod_eq_emod_of_nonneg h]
  omega
theorem more_up {locks : List Lk} {more : Int} (hm : 0 ≤ more) (h : ∀ i (hi : i < locks.length), (locks[i]).2.2.1 ≤ 1000) (z : Lk) : moreR locks (locks.map (upR more) ++ [z]) := by
  refine ⟨by simp, fun i hi => ?_⟩
  have h1 : lockR locks (i : Nat) = locks[i] := lock_at hi
  have h2 : lockR (locks.map (upR more) ++ [z]) (i : Nat) = upR more locks[i] := by
    have hl : i < (locks.map (upR more) ++ [z]).length := by simp; omega
    rw [lock_at hl, List.getElem_append_left (by rw [List.length_map]; exact hi), List.getElem_map]
  rw [h1, h2]
  refine ⟨rfl, ?_⟩
  have h3 := h i hi
  have h4 := tmod_in (locks[i]).2.2.1
  show (locks[i]).2.2.1 ≤ (max (locks[i]).2.2.1 0).tmod 1000 + more + 1000
  omega
end Go.Proofs.Ytmcfjlkjijaflaa
