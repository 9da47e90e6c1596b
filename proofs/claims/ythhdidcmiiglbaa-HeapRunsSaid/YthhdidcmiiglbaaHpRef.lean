/-
  The document's heap: New, Has, First.
-/
import Derived.Test.YthhdidcmiiglbaaChecked
import Derived.Test.YthhdidcmiiglbaaLst
import Derived.Lib.Hide
import Derived.Deep.QuietTactic
import Derived.BigQuiet
namespace Go.Proofs.Ythhdidcmiiglbaa
open Go.RowKit

/-- An item: when it is due, its number, its value. -/
abbrev It := Int × Int × Int
abbrev encIt (x : It) : List Value := [.int .u64 x.1, .int .i64 x.2.1, .int .i64 x.2.2]
theorem encIt_len (x : It) : (encIt x).length = 3 := rfl
abbrev tH4 : TypeId := 48
abbrev tI4 : TypeId := 39
/-- Block b holds the document's heap: room m, items L. -/
abbrev R4 (w : World) (b : Nat) (X : List Nat) (m : Int) (L : List It) : Prop := LAt tH4 tI4 3 encIt (fun v => #[.int .i64 m, v]) w b X L

/-- The place of a number; below 0. -/
def hasI (L : List It) (id : Int) : Int := placeI (fun x => decide (x.2.1 = id)) L
theorem hasI_none {L : List It} {id : Int} (h : ∀ j (hj : j < L.length), L[j].2.1 ≠ id) : hasI L id = -1 := place_none fun j hj => by simpa using h j hj
theorem hasI_some {L : List It} {id : Int} {k : Nat} (hk : k < L.length) (hid : L[k].2.1 = id) (h : ∀ j (hj : j < L.length), j < k → L[j].2.1 ≠ id) : hasI L id = k :=
  place_some hk (by simpa using hid) fun j hj hjk => by simpa using h j hj hjk
theorem hasI_cases (L : List It) (id : Int) : hasI L id = -1 ∧ (∀ x ∈ L, x.2.1 ≠ id) ∨ ∃ k : Nat, ∃ hk : k < L.length, hasI L id = k ∧ L[k].2.1 = id := by
  rcases place_cases (fun x : It => decide (x.2.1 = id)) L with ⟨h1, h2⟩ | ⟨k, hk, h1, h2⟩
  · exact .inl ⟨h1, fun x hx => by simpa using h2 x hx⟩
  · exact .inr ⟨k, hk, h1, by simpa using h2⟩

/-- Is a due ahead of b? -/
def ahead (a b : It) : Bool := decide (a.1 < b.1) || (decide (a.1 = b.1) && decide (a.2.1 < b.2.1))
/-- The place of the first one that is due among the first k; below 0. -/
def bestI (L : List It) : Nat → Int
  | 0 => -1
  | k + 1 => if bestI L k < 0 then k else if ahead (L.getD k (0, 0, 0)) (L.getD (bestI L k).toNat (0, 0, 0)) then k else bestI L k
def firstI (L : List It) : Int := bestI L L.length
theorem bestI_range (L : List It) : ∀ k, -1 ≤ bestI L k ∧ bestI L k < k ∧ (0 < k → 0 ≤ bestI L k)
  | 0 => by simp [bestI]
  | k + 1 => by
    have ih := bestI_range L k
    simp only [bestI]
    split
    · omega
    · split <;> omega

/-- The row of a heap, opened. -/
theorem R4.rows {w : World} {b : Nat} {X : List Nat} {m : Int} {L : List It} (h : R4 w b X m L) :
    ∃ a cap, w.cell? ⟨b, 0, none⟩ = some (.int .i64 m) ∧ w.cell? ⟨b, 1, none⟩ = some (.slice a L.length cap) ∧
      ∀ j (_ : j < L.length), ∃ g, a = some ⟨g, 0, none⟩ ∧ w.cell? ⟨g, j * 3, none⟩ = some (.int .u64 (L.getD j (0, 0, 0)).1) ∧ w.cell? ⟨g, j * 3 + 1, none⟩ = some (.int .i64 (L.getD j (0, 0, 0)).2.1) ∧ w.cell? ⟨g, j * 3 + 2, none⟩ = some (.int .i64 (L.getD j (0, 0, 0)).2.2) := by
  obtain ⟨a, cap, h1, h2, h3, hc, hm, hg⟩ := h.view
  obtain ⟨c0, c1, _⟩ := cells2 h1
  refine ⟨a, cap, c0, c1, fun j hj => ?_⟩
  obtain ⟨g, hg | hg⟩ := hg j hj
  · obtain ⟨rfl, hbg⟩ := hg
    have r := row_cells encIt_len h2 hj
    have hd : L.getD j (0, 0, 0) = L[j] := by simp [List.getD, hj]
    rw [hd]
    exact ⟨g, rfl, (r 0 (by omega)).1, (r 1 (by omega)).1, (r 2 (by omega)).1⟩
  · exact absurd hg (by decide)

set_option maxHeartbeats 400000 in
theorem rhas_any {w : World} {b : Nat} {X : List Nat} {m : Int} {L : List It} (h : R4 w b X m L) (id : Int) :
    Calls Try.prog 14 #[.pointer (some ⟨b, 0, none⟩), .int .i64 id] w fun e w' => e = .returned (.int .i64 (hasI L id)) ∧ w = w' := by
  have hlen : L.length ≤ maxLen := by obtain ⟨a, cap, _, _, _, hc, hm, _⟩ := h.view; omega
  obtain ⟨a, cap, c0, c1, hr⟩ := h.rows
  have HR := Lib.hid hr
  unfold maxLen at hlen
  clear h hr
  go_enter Try.func14, Try.ntmps14
  go_wp2
  go_loop [5] (fun i => ∃ k : Nat, i = .int .i64 k ∧ k ≤ L.length ∧ Hid (∀ j (hj : j < L.length), j < k → L[j].2.1 ≠ id)) (fun i => L.length - (intOf i).toNat)
  case atStart => exact ⟨0, rfl, by omega, Lib.hid fun j hj h => by omega⟩
  case round =>
    obtain ⟨k, rfl, hk, HP⟩ := hrel
    by_cases hlt : k < L.length
    · obtain ⟨g, rfl, r0, r1, r2⟩ := HR.out k hlt
      have i0 : (0 : Int) ≤ k := by omega
      have i1 : (k : Int) < L.length := by omega
      have hd : L.getD k (0, 0, 0) = L[k] := by simp [List.getD, hlt]
      have HD := Lib.hid hd
      obtain ⟨y, hy⟩ : ∃ y, (L.getD k (0, 0, 0)).2.1 = y := ⟨_, rfl⟩
      rw [hy] at r1
      have HY := Lib.hid hy
      clear hy hd r0 r2
      by_cases hp : y = id
      · subst hp
        go_wp2
        go_ret
        have h1 := HY.out
        rw [HD.out] at h1
        rw [hasI_some hlt h1 HP.out]
        exact ⟨rfl, rfl⟩
      · go_wp2
        go_round
        case rel =>
          refine ⟨k + 1, by go_num, by omega, Lib.hid fun j hj hjk => ?_⟩
          by_cases e : j = k
          · subst e
            have h1 := HY.out
            rw [HD.out] at h1
            rw [h1]
            exact hp
          · exact HP.out j hj (by omega)
        case measure => simp [intOf]; omega
    · have hk' : k = L.length := by omega
      subst hk'
      go_wp2
      go_ret
      rw [hasI_none fun j hj => HP.out j hj hj]
      exact ⟨rfl, rfl⟩
end Go.Proofs.Ythhdidcmiiglbaa
