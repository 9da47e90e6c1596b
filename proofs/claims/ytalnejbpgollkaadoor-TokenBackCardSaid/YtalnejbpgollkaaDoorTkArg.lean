/-
  Words in memory as they are read; bytes as a text; how long texts are.
-/
import Derived.Test.YtalnejbpgollkaaDoorTkAdd
import Derived.Lib.BufferRead
namespace Go.Proofs.YtalnejbpgollkaaDoor
open Go.RowKit

/-- A slice of words, as it is read. -/
structure WArg (w : World) (ao : Option Addr) (b off : Nat) (L : List Wd) : Prop where
  at_ : 0 < L.length → ao = some ⟨b, off, none⟩ ∧ b < w.heap.size
  cells : ∀ i (hi : i < L.length), w.cell? ⟨b, off + i * 4, none⟩ = some (.int .i64 L[i].1) ∧ w.cell? ⟨b, off + i * 4 + 1, none⟩ = some (.string ⟨L[i].2.1.toArray⟩) ∧ w.cell? ⟨b, off + i * 4 + 2, none⟩ = some (.int .i64 L[i].2.2.1) ∧ w.cell? ⟨b, off + i * 4 + 3, none⟩ = some (.int .i64 L[i].2.2.2)
theorem WArg.below {w w' : World} {ao : Option Addr} {b off : Nat} {L : List Wd} (h : WArg w ao b off L) (hb : Below w.heap.size w w') : WArg w' ao b off L := by
  refine ⟨fun h0 => ⟨(h.at_ h0).1, Nat.lt_of_lt_of_le (h.at_ h0).2 hb.size⟩, fun i hi => ?_⟩
  have hl := (h.at_ (by omega)).2
  obtain ⟨h0, h1, h2, h3⟩ := h.cells i hi
  exact ⟨(hb.cell (p := ⟨b, off + i * 4, none⟩) hl).trans h0, (hb.cell (p := ⟨b, off + i * 4 + 1, none⟩) hl).trans h1, (hb.cell (p := ⟨b, off + i * 4 + 2, none⟩) hl).trans h2, (hb.cell (p := ⟨b, off + i * 4 + 3, none⟩) hl).trans h3⟩
theorem WArg.row_at {base : Nat} {w : World} {g n cap : Nat} {L : List Wd} (h : WRow base w (.slice (some ⟨g, 0, none⟩) n cap) L) : WArg w (some ⟨g, 0, none⟩) g 0 L :=
  ⟨fun _ => ⟨rfl, (h.lt g (by simp [Value.ownBlock])).2⟩, fun i hi => by
    have hr := row_word h i hi
    simpa using hr⟩
theorem WArg.of_row {base : Nat} {w : World} {v : Value} {L : List Wd} (h : WRow base w v L) : ∃ ao b cap, v = .slice ao L.length cap ∧ WArg w ao b 0 L := by
  by_cases h0 : 0 < L.length
  · obtain ⟨g, cap, rfl, _, _⟩ := ownsRow_pos h h0
    refine ⟨_, g, cap, rfl, fun _ => ⟨rfl, (h.lt g (by simp [Value.ownBlock])).2⟩, fun i hi => ?_⟩
    have hr := row_word h i hi
    simpa using hr
  · obtain ⟨a, cap, rfl, _, _⟩ := ownsRow_shape h
    exact ⟨a, 0, cap, rfl, fun h => absurd h h0, fun i hi => by omega⟩

/-- A row of bytes as a text. -/
theorem conv_back {base : Nat} {w : World} {v : Value} {l : List By} (h : BRow base w v l) : (convert 40 9 v).run Tryd.prog w = .ok (.string ⟨l.toArray⟩) w := by
  by_cases h0 : 0 < l.length
  · obtain ⟨g, cap, rfl, _, _⟩ := ownsRow_pos h h0
    refine run_convert_bytes_back w _ _ 5 ⟨g, 0, none⟩ cap l Tryd.underlying40 Tryd.underlying5 Tryd.underlying9 fun j hj => ?_
    rw [Addr.add_lit, Nat.zero_add, h.cellAt j (by omega)]
    simp [hj]
  · have hl : l = [] := List.eq_nil_of_length_eq_zero (by omega)
    subst hl
    rcases h.2 with ⟨rfl, _⟩ | ⟨g, cap, cur, rfl, _⟩
    · exact Lib.run_convert_nil_bytes w _ _ 5 0 Tryd.underlying40 Tryd.underlying5 Tryd.underlying9
    · exact run_convert_bytes_back w _ _ 5 ⟨g, 0, none⟩ cap [] Tryd.underlying40 Tryd.underlying5 Tryd.underlying9 fun j hj => by simp at hj

theorem textR_len {x : Wd} {s : List By} (h : textR x = some s) (hx : x.2.1.length ≤ 40) : s.length ≤ 40 := by
  unfold textR at h
  split at h
  · split at h
    · next hc =>
      obtain ⟨_, h0, h9⟩ := hc
      simp only [Option.some.injEq] at h
      rw [← h]
      have := digits_len 8 x.2.2.1.toNat (by omega)
      omega
    · cases h
  · split at h
    · cases h
    · split at h
      · cases h
      · next c t e =>
        split at h
        · simp only [Option.some.injEq] at h
          rw [← h, ← e]
          exact hx
        · cases h
theorem addR_len (out s : List By) : (addR out s).length ≤ out.length + s.length + 1 := by
  unfold addR
  split <;> simp <;> omega
theorem joinF_cons (x : Wd) (L : List Wd) (out : List By) : joinF (x :: L) out = match textR x with | some s => joinF L (addR out s) | none => none := rfl
end Go.Proofs.YtalnejbpgollkaaDoor
