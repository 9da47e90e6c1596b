/-
  Numbers in digits, in memory; the reference's at and longer.
-/
import Derived.Test.YtaohihfhgialnaaRefMath
import Derived.Test.YtaohihfhgialnaaFixWide
import Derived.Lib.Hide
import Derived.Deep.QuietTactic
import Derived.BigQuiet
namespace Go.Proofs.Ytaohihfhgialnaa
open Go.RowKit Go.Shelf

/-- The slice v reads as the digits l. -/
def Digs (w : World) (v : Value) (l : List Int) : Prop :=
  (v = .slice none 0 0 ∧ l = []) ∨ ∃ g o c, v = .slice (some ⟨g, o, none⟩) l.length c ∧ l.length ≤ c ∧ c ≤ maxLen ∧ g < w.heap.size ∧ ∀ i, i < l.length → w.cell? ⟨g, o + i, none⟩ = some (.int .u64 (dg l i))
theorem Digs.below {w w' : World} {v : Value} {l : List Int} (h : Digs w v l) (hb : Below w.heap.size w w') : Digs w' v l := by
  rcases h with h | ⟨g, o, c, h1, h2, h3, h4, h5⟩
  · exact .inl h
  · exact .inr ⟨g, o, c, h1, h2, h3, Nat.lt_of_lt_of_le h4 hb.size, fun i hi => (hb.cell (p := ⟨g, o + i, none⟩) h4).trans (h5 i hi)⟩
theorem Digs.owned {w : World} {base : Nat} {v : Value} {n : Nat} {l : List Int} (h : w.ownsRow base 23 1 v n (l.map (Value.int .u64))) : Digs w v l := by
  have hlt := h.lt
  have hlen : l.length = n := by have := h.1; simpa using this
  rcases h.2 with ⟨h1, h2⟩ | ⟨g, cap, cur, h1, h2, h3, h4, h5, h6, h7⟩
  · refine .inl ⟨h1, ?_⟩
    exact List.eq_nil_of_length_eq_zero (by omega)
  · subst h1
    refine .inr ⟨g, 0, cap, by rw [hlen], by omega, h5, (hlt g rfl).2, fun i hi => ?_⟩
    have := h.cellAt i (by omega)
    rw [Nat.zero_add, this]
    unfold dg
    simp [List.getD_eq_getElem?_getD, hi]

/-- The slice v reads as a number in at most m digits. -/
structure Num (w : World) (v : Value) (X : Int) (m : Nat) : Prop where
  digs : ∃ L, Digs w v L ∧ Good L ∧ val L = X ∧ L.length ≤ m
theorem Num.below {w w' : World} {v : Value} {X : Int} {m : Nat} (h : Num w v X m) (hb : Below w.heap.size w w') : Num w' v X m := by
  obtain ⟨L, h1, h2, h3, h4⟩ := h.digs
  exact ⟨L, h1.below hb, h2, h3, h4⟩
theorem Num.mono {w : World} {v : Value} {X : Int} {m m' : Nat} (h : Num w v X m) (hm : m ≤ m') : Num w v X m' := by
  obtain ⟨L, h1, h2, h3, h4⟩ := h.digs
  exact ⟨L, h1, h2, h3, by omega⟩

theorem word_info : (Try.prog.info? 23).map (fun i => (i.zero, i.size, i.bytes)) = some (some (.int .u64 0), 1, 8) := by kernel_rfl

set_option maxHeartbeats 400000 in
theorem at_any {w : World} {v : Value} {L : List Int} (h : Digs w v L) (i : Nat) (hl : L.length ≤ 100000) :
    Calls Try.prog 30 #[v, .int .i64 i] w fun e w' => e = .returned (.int .u64 (dg L i)) ∧ w = w' := by
  by_cases hk : i < L.length
  · rcases h with ⟨h1, h2⟩ | ⟨g, o, c, h1, h2, h3, h4, h5⟩
    · subst h2
      simp at hk
    · subst h1
      have hc := h5 i hk
      clear h5
      go_enter Try.func30, Try.ntmps30
      go_wp2
      go_ret
      exact ⟨rfl, rfl⟩
  · rw [dg_out (by omega)]
    rcases h with ⟨h1, h2⟩ | ⟨g, o, c, h1, h2, h3, h4, h5⟩
    · subst h1 h2
      go_enter Try.func30, Try.ntmps30
      go_wp2
      go_ret
      exact ⟨rfl, rfl⟩
    · subst h1
      clear h5
      go_enter Try.func30, Try.ntmps30
      go_wp2
      go_ret
      exact ⟨rfl, rfl⟩

theorem Digs.form {w : World} {v : Value} {L : List Int} (h : Digs w v L) : ∃ A c, v = .slice A L.length c := by
  rcases h with ⟨h1, h2⟩ | ⟨g, o, c, h1, _⟩
  · exact ⟨none, 0, by rw [h1, h2]; rfl⟩
  · exact ⟨_, c, h1⟩

set_option maxHeartbeats 400000 in
theorem longer_any {w : World} {a b : Value} {A B : List Int} (ha : Digs w a A) (hb : Digs w b B) :
    Calls Try.prog 31 #[a, b] w fun e w' => e = .returned (.int .i64 ((max A.length B.length : Nat) : Int)) ∧ w = w' := by
  obtain ⟨x, c, rfl⟩ := ha.form
  obtain ⟨y, d, rfl⟩ := hb.form
  clear ha hb
  by_cases h : B.length < A.length
  · rw [show max A.length B.length = A.length by omega]
    go_enter Try.func31, Try.ntmps31
    go_wp2
    go_ret
    exact ⟨rfl, rfl⟩
  · rw [show max A.length B.length = B.length by omega]
    go_enter Try.func31, Try.ntmps31
    go_wp2
    go_ret
    exact ⟨rfl, rfl⟩
end Go.Proofs.Ytaohihfhgialnaa
