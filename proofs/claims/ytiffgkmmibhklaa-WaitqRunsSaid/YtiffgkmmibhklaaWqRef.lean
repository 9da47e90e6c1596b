/-
  The document's waiters: bring, New, At, First, Count (made by gen_wq.py).
-/
import Derived.Test.YtiffgkmmibhklaaChecked
import Derived.Test.YtiffgkmmibhklaaGA
import Derived.Lib.Hide
import Derived.Deep.QuietTactic
import Derived.BigQuiet
import Derived.Deep.RegionLaw
namespace Go.Proofs.Ytiffgkmmibhklaa
open Go.RowKit

/-- Who waits: who, for what, until when. -/
abbrev Wt := Int × Int × Int
abbrev encW (x : Wt) : List Value := [.int .i64 x.1, .int .i64 x.2.1, .int .u64 x.2.2]
theorem encW_len (x : Wt) : (encW x).length = 3 := rfl
theorem encW_one (x : Wt) : ∀ u ∈ encW x, u.oneCell' = true := by
  intro u hu
  simp at hu
  rcases hu with rfl | rfl | rfl <;> rfl
abbrev aggW (x : Wt) : Value := .agg #[.int .i64 x.1, .int .i64 x.2.1, .int .u64 x.2.2]
abbrev tT8 : TypeId := 48
abbrev tW : TypeId := 32
abbrev csT (m e : Int) (v : Value) : Array Value := #[.int .i64 m, .int .i64 e, v]
/-- Block b holds the document's table: room m in all, e for a key; L: who waits. -/
abbrev R8 (w : World) (b : Nat) (X : List Nat) (m e : Int) (L : List Wt) : Prop := LAt tT8 tW 3 encW (csT m e) w b X L

/-- The place of one who waits; of the first one for a key; below 0. -/
def whoI (L : List Wt) (a : Int) : Int := placeI (fun x => decide (x.1 = a)) L
def keyI (L : List Wt) (a : Int) : Int := placeI (fun x => decide (x.2.1 = a)) L
/-- How many wait for a key. -/
def cntK (L : List Wt) (a : Int) : Nat := (L.filter fun x => decide (x.2.1 = a)).length

theorem cellsT {w : World} {b : Nat} {x y z : Value} {t : TypeId} (h : w.heap[b]? = some (.cells #[x, y, z] t (0, 0))) :
    w.cell? ⟨b, 0, none⟩ = some x ∧ w.cell? ⟨b, 1, none⟩ = some y ∧ w.cell? ⟨b, 2, none⟩ = some z ∧ ∀ i, w.frozen? ⟨b, i, none⟩ = false := by
  refine ⟨by simp [World.cell?, h], by simp [World.cell?, h], by simp [World.cell?, h], fun i => frozen_of_row w b i _ t h⟩
/-- The row of a table, opened. -/
theorem R8.rows {w : World} {b : Nat} {X : List Nat} {m e : Int} {L : List Wt} (h : R8 w b X m e L) :
    ∃ a cap, w.cell? ⟨b, 0, none⟩ = some (.int .i64 m) ∧ w.cell? ⟨b, 1, none⟩ = some (.int .i64 e) ∧ w.cell? ⟨b, 2, none⟩ = some (.slice a L.length cap) ∧
      ∀ j (_ : j < L.length), ∃ g, a = some ⟨g, 0, none⟩ ∧ w.cell? ⟨g, j * 3, none⟩ = some (.int .i64 (L.getD j (0, 0, 0)).1) ∧ w.cell? ⟨g, j * 3 + 1, none⟩ = some (.int .i64 (L.getD j (0, 0, 0)).2.1) ∧ w.cell? ⟨g, j * 3 + 2, none⟩ = some (.int .u64 (L.getD j (0, 0, 0)).2.2) := by
  obtain ⟨a, cap, h1, h2, h3, hc, hm, hg⟩ := h.view
  obtain ⟨c0, c1, c2, _⟩ := cellsT h1
  refine ⟨a, cap, c0, c1, c2, fun j hj => ?_⟩
  obtain ⟨g, hg | hg⟩ := hg j hj
  · obtain ⟨rfl, hbg⟩ := hg
    have r := row_cells encW_len h2 hj
    have hd : L.getD j (0, 0, 0) = L[j] := by simp [List.getD, hj]
    rw [hd]
    exact ⟨g, rfl, (r 0 (by omega)).1, (r 1 (by omega)).1, (r 2 (by omega)).1⟩
  · exact absurd hg (by decide)
theorem R8.len {w : World} {b : Nat} {X : List Nat} {m e : Int} {L : List Wt} (h : R8 w b X m e L) : L.length ≤ maxLen := by
  obtain ⟨a, cap, _, _, _, hc, hm, _⟩ := h.view
  omega

theorem rbring_any (n : Int) (w : World) : Calls Try.prog 26 #[.int .i64 n] w fun e w' => e = .returned (.int .i64 (min (max n 0) 4096)) ∧ w' = w := by
  by_cases h0 : n < 0
  · rw [show min (max n 0) 4096 = 0 by omega]
    go_enter Try.func26, Try.ntmps26
    go_wp2
    go_ret
    exact ⟨rfl, rfl⟩
  · by_cases h1 : n > 4096
    · rw [show min (max n 0) 4096 = 4096 by omega]
      have h1' : 4096 < n := by omega
      go_enter Try.func26, Try.ntmps26
      go_wp2
      go_ret
      exact ⟨rfl, rfl⟩
    · rw [show min (max n 0) 4096 = n by omega]
      have h0' : 0 ≤ n := by omega
      have h1' : n ≤ 4096 := by omega
      go_enter Try.func26, Try.ntmps26
      go_wp2
      go_ret
      exact ⟨rfl, rfl⟩
theorem rnew8_any (m e : Int) (w : World) : Calls Try.prog 7 #[.int .i64 m, .int .i64 e] w fun r w' => r = .returned (.pointer (some ⟨w.heap.size, 0, none⟩)) ∧
    R8 w' w.heap.size [w.heap.size] (min (max m 0) 4096) (min (max e 0) 4096) [] ∧ Turned [] w w' := by
  have H1 := Lib.hid (rbring_any m w)
  have H2 := Lib.hid (rbring_any e w)
  obtain ⟨q, hq⟩ : ∃ q, min (max m 0) 4096 = q := ⟨_, rfl⟩
  obtain ⟨r, hr⟩ : ∃ r, min (max e 0) 4096 = r := ⟨_, rfl⟩
  rw [hq] at H1 ⊢
  rw [hr] at H2 ⊢
  have HF := Lib.hid (show R8 (w.alloc (.cells (csT q r (.slice none 0 0)) tT8)) w.heap.size [w.heap.size] q r [] ∧ Turned [] w (w.alloc (.cells (csT q r (.slice none 0 0)) tT8)) from
    ⟨⟨.slice none 0 0, heap_alloc_new w _, World.ownsRow_nil _ _ _ _, rfl⟩, (Turned.refl _ w).alloc _⟩)
  clear hq hr
  go_enter Try.func7, Try.ntmps7
  go_wp2_with fail
  with_reducible refine H1.out.mono ?_
  rintro e w1 ⟨rfl, rfl⟩
  go_wp2_with fail
  with_reducible refine H2.out.mono ?_
  rintro e w1 ⟨rfl, rfl⟩
  go_wp2
  go_ret
  exact ⟨rfl, HF.out⟩

set_option maxHeartbeats 400000 in
theorem rat_any {w : World} {b : Nat} {X : List Nat} {m e : Int} {L : List Wt} (h : R8 w b X m e L) (id : Int) :
    Calls Try.prog 14 #[.pointer (some ⟨b, 0, none⟩), .int .i64 id] w fun e w' => e = .returned (.int .i64 (whoI L id)) ∧ w' = w := by
  have hlen := h.len
  obtain ⟨a, cap, c0, c1, c2, hr⟩ := h.rows
  have HR := Lib.hid hr
  unfold maxLen at hlen
  clear h hr
  go_enter Try.func14, Try.ntmps14
  go_wp2
  go_loop [5] (fun i => ∃ k : Nat, i = .int .i64 k ∧ k ≤ L.length ∧ Hid (∀ j (hj : j < L.length), j < k → decide (L[j].1 = id) = false)) (fun i => L.length - (intOf i).toNat)
  case atStart => exact ⟨0, rfl, by omega, Lib.hid fun j hj h => by omega⟩
  case round =>
    obtain ⟨k, rfl, hk, HP⟩ := hrel
    by_cases hlt : k < L.length
    · obtain ⟨g, rfl, r0, r1, r2⟩ := HR.out k hlt
      have i0 : (0 : Int) ≤ k := by omega
      have i1 : (k : Int) < L.length := by omega
      have hd : L.getD k (0, 0, 0) = L[k] := by simp [List.getD, hlt]
      have HD := Lib.hid hd
      obtain ⟨y, hy⟩ : ∃ y, (L.getD k (0, 0, 0)).1 = y := ⟨_, rfl⟩
      rw [hy] at r0
      have HY := Lib.hid hy
      clear hy hd r1 r2
      by_cases hp : y = id
      · subst hp
        go_wp2
        go_ret
        have h1 := HY.out
        rw [HD.out] at h1
        rw [whoI, place_some hlt (by simpa using h1) HP.out]
        exact ⟨rfl, rfl⟩
      · go_wp2
        go_round
        case rel =>
          refine ⟨k + 1, by go_num, by omega, Lib.hid fun j hj hjk => ?_⟩
          by_cases e : j = k
          · subst e
            have h1 := HY.out
            rw [HD.out] at h1
            rw [h1]
            simpa using hp
          · exact HP.out j hj (by omega)
        case measure => simp [intOf]; omega
    · have hk' : k = L.length := by omega
      subst hk'
      go_wp2
      go_ret
      rw [whoI, place_none fun j hj => HP.out j hj hj]
      exact ⟨rfl, rfl⟩

set_option maxHeartbeats 400000 in
theorem rfirst_any {w : World} {b : Nat} {X : List Nat} {m e : Int} {L : List Wt} (h : R8 w b X m e L) (id : Int) :
    Calls Try.prog 32 #[.pointer (some ⟨b, 0, none⟩), .int .i64 id] w fun e w' => e = .returned (.int .i64 (keyI L id)) ∧ w' = w := by
  have hlen := h.len
  obtain ⟨a, cap, c0, c1, c2, hr⟩ := h.rows
  have HR := Lib.hid hr
  unfold maxLen at hlen
  clear h hr
  go_enter Try.func32, Try.ntmps32
  go_wp2
  go_loop [5] (fun i => ∃ k : Nat, i = .int .i64 k ∧ k ≤ L.length ∧ Hid (∀ j (hj : j < L.length), j < k → decide (L[j].2.1 = id) = false)) (fun i => L.length - (intOf i).toNat)
  case atStart => exact ⟨0, rfl, by omega, Lib.hid fun j hj h => by omega⟩
  case round =>
    obtain ⟨k, rfl, hk, HP⟩ := hrel
    by_cases hlt : k < L.length
    · obtain ⟨g, rfl, r0, r1, r2⟩ := HR.out k hlt
      have i0 : (0 : Int) ≤ k := by omega
      have i1 : (k : Int) < L.length := by omega
      have hd : L.getD k (0, 0, 0) = L[k] := by simp [List.getD, hlt]
      have HD := Lib.hid hd
      obtain ⟨y, hy⟩ : ∃ y, (L.getD k (0, 0, 0)).2.1 = y := ⟨_, rfl⟩
      rw [hy] at r1
      have HY := Lib.hid hy
      clear hy hd r0 r2
      by_cases hp : y = id
      · subst hp
        go_wp2
        go_ret
        have h1 := HY.out
        rw [HD.out] at h1
        rw [keyI, place_some hlt (by simpa using h1) HP.out]
        exact ⟨rfl, rfl⟩
      · go_wp2
        go_round
        case rel =>
          refine ⟨k + 1, by go_num, by omega, Lib.hid fun j hj hjk => ?_⟩
          by_cases e : j = k
          · subst e
            have h1 := HY.out
            rw [HD.out] at h1
            rw [h1]
            simpa using hp
          · exact HP.out j hj (by omega)
        case measure => simp [intOf]; omega
    · have hk' : k = L.length := by omega
      subst hk'
      go_wp2
      go_ret
      rw [keyI, place_none fun j hj => HP.out j hj hj]
      exact ⟨rfl, rfl⟩

theorem cnt_succ {L : List Wt} {a : Int} {k : Nat} (hk : k < L.length) : cntK (L.take (k + 1)) a = cntK (L.take k) a + if (L.getD k (0, 0, 0)).2.1 = a then 1 else 0 := by
  have hd : L.getD k (0, 0, 0) = L[k] := by simp [List.getD, hk]
  rw [hd, List.take_succ_eq_append_getElem hk]
  unfold cntK
  rw [List.filter_append, List.length_append]
  by_cases h : L[k].2.1 = a <;> simp [h]
theorem cnt_le (L : List Wt) (a : Int) : cntK L a ≤ L.length := List.length_filter_le _ _
set_option maxHeartbeats 400000 in
theorem rcount_any {w : World} {b : Nat} {X : List Nat} {m e : Int} {L : List Wt} (h : R8 w b X m e L) (id : Int) :
    Calls Try.prog 29 #[.pointer (some ⟨b, 0, none⟩), .int .i64 id] w fun e w' => e = .returned (.int .i64 (cntK L id : Nat)) ∧ w' = w := by
  have hlen := h.len
  obtain ⟨a, cap, c0, c1, c2, hr⟩ := h.rows
  have HR := Lib.hid hr
  unfold maxLen at hlen
  clear h hr
  go_enter Try.func29, Try.ntmps29
  go_wp2
  go_loop [5, 6] (fun n i => ∃ k q : Nat, i = .int .i64 k ∧ n = .int .i64 q ∧ k ≤ L.length ∧ q ≤ k ∧ Hid (cntK (L.take k) id = q)) (fun _ i => L.length - (intOf i).toNat)
  case atStart => exact ⟨0, 0, rfl, rfl, by omega, by omega, Lib.hid (by simp [cntK])⟩
  case round =>
    obtain ⟨k, q, rfl, rfl, hk, hqk, HP⟩ := hrel
    by_cases hlt : k < L.length
    · obtain ⟨g, rfl, r0, r1, r2⟩ := HR.out k hlt
      have i0 : (0 : Int) ≤ k := by omega
      have i1 : (k : Int) < L.length := by omega
      have HC := Lib.hid (cnt_succ (a := id) hlt)
      obtain ⟨y, hy⟩ : ∃ y, (L.getD k (0, 0, 0)).2.1 = y := ⟨_, rfl⟩
      rw [hy] at r1 HC
      rw [HP.out] at HC
      clear hy r0 r2
      by_cases hp : y = id
      · subst hp
        go_wp2
        go_round
        case rel => exact ⟨k + 1, q + 1, by go_num, by go_num, by omega, by omega, Lib.hid (by rw [HC.out]; simp)⟩
        case measure => simp [intOf]; omega
      · rw [if_neg hp] at HC
        go_wp2
        go_round
        case rel => exact ⟨k + 1, q, by go_num, rfl, by omega, by omega, Lib.hid (by rw [HC.out]; simp)⟩
        case measure => simp [intOf]; omega
    · have hk' : k = L.length := by omega
      subst hk'
      go_wp2
      go_ret
      have h1 := HP.out
      rw [List.take_length] at h1
      rw [h1]
      exact ⟨rfl, rfl⟩
end Go.Proofs.Ytiffgkmmibhklaa
