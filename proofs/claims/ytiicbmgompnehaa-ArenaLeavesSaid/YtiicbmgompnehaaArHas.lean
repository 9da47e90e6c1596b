/-
  (*Arena[int]).has, Get, Len, Most.
-/
import Derived.Test.YtiicbmgompnehaaChecked
import Derived.Test.YtiicbmgompnehaaArRows
import Derived.Lib.Hide
import Derived.Deep.QuietTactic
import Derived.BigQuiet
namespace Go.Proofs.Ytiicbmgompnehaa
open Go.RowKit

abbrev encI (x : Int) : List Value := [.int .i64 x]
abbrev ArI (w : World) (b : Nat) (X : List Nat) (m : Int) (S : List (Int × Bool)) (F : List Nat) : Prop := ArAt 63 65 encI 1 w b X m S F

set_option maxHeartbeats 400000 in
theorem has_neg (b : Nat) (n : Int) (w : World) (hn : n < 0) : Calls Try.prog 30 #[.pointer (some ⟨b, 0, none⟩), .int .i64 n] w fun e w' => e = .returned (.bool false) ∧ w = w' := by
  go_enter Try.func30, Try.ntmps30
  go_wp2
  go_ret
  exact ⟨rfl, rfl⟩
set_option maxHeartbeats 400000 in
theorem has_nil (n : Int) (w : World) : Calls Try.prog 30 #[.pointer none, .int .i64 n] w fun e w' => e = .returned (.bool false) ∧ w = w' := by
  go_enter Try.func30, Try.ntmps30
  go_wp2
  go_ret
  exact ⟨rfl, rfl⟩
set_option maxHeartbeats 400000 in
theorem has_far (b : Nat) (n : Int) (w : World) (a : Option Addr) (len cap : Nat) (hc : w.cell? ⟨b, 1, none⟩ = some (.slice a len cap)) (hn : 0 ≤ n) (hl : (len : Int) ≤ n) :
    Calls Try.prog 30 #[.pointer (some ⟨b, 0, none⟩), .int .i64 n] w fun e w' => e = .returned (.bool false) ∧ w = w' := by
  go_enter Try.func30, Try.ntmps30
  go_wp2
  go_ret
  exact ⟨rfl, rfl⟩
set_option maxHeartbeats 400000 in
theorem has_in (b g : Nat) (n : Int) (w : World) (len cap j : Nat) (t : Bool) (hc : w.cell? ⟨b, 1, none⟩ = some (.slice (some ⟨g, 0, none⟩) len cap)) (hn : n = j) (hl : j < len) (ht : w.cell? ⟨g, j * 2 + 1, none⟩ = some (.bool t)) :
    Calls Try.prog 30 #[.pointer (some ⟨b, 0, none⟩), .int .i64 n] w fun e w' => e = .returned (.bool t) ∧ w = w' := by
  subst hn
  have h0 : (0 : Int) ≤ j := by omega
  have h1 : (j : Int) < len := by omega
  go_enter Try.func30, Try.ntmps30
  go_wp2
  go_ret
  exact ⟨rfl, rfl⟩
theorem cells3 {w : World} {b : Nat} {x y z : Value} {t : TypeId} (h : w.heap[b]? = some (.cells #[x, y, z] t (0, 0))) :
    w.cell? ⟨b, 0, none⟩ = some x ∧ w.cell? ⟨b, 1, none⟩ = some y ∧ w.cell? ⟨b, 2, none⟩ = some z ∧ ∀ i, w.frozen? ⟨b, i, none⟩ = false := by
  refine ⟨by simp [World.cell?, h], by simp [World.cell?, h], by simp [World.cell?, h], fun i => frozen_of_row w b i _ t h⟩

theorem slot_cells {w : World} {g n cap : Nat} {S : List (Int × Bool)} {j : Nat} {v : Int} {t : Bool} (h : w.ownsRow 0 65 2 (.slice (some ⟨g, 0, none⟩) n cap) n (slots encI S)) (hn : n = S.length) (hj : S[j]? = some (v, t)) :
    w.cell? ⟨g, j * 2, none⟩ = some (.int .i64 v) ∧ w.cell? ⟨g, j * 2 + 1, none⟩ = some (.bool t) ∧ (w.frozen? ⟨g, j * 2, none⟩ = false ∧ w.frozen? ⟨g, j * 2 + 1, none⟩ = false) := by
  obtain ⟨hl, he⟩ := List.getElem?_eq_some_iff.1 hj
  have g0 := slots_get (enc := encI) (k := 1) (fun _ => rfl) S j 0 hl (by omega)
  have g1 := slots_get (enc := encI) (k := 1) (fun _ => rfl) S j 1 hl (by omega)
  rw [he] at g0 g1
  refine ⟨?_, ?_, h.frozenAt _, h.frozenAt _⟩
  · rw [h.cellAt _ (by omega)]; simpa using g0
  · rw [h.cellAt _ (by omega)]; simpa using g1

theorem has_any {w : World} {b : Nat} {X : List Nat} {m : Int} {S : List (Int × Bool)} {F : List Nat} (h : ArI w b X m S F) (n : Int) :
    Calls Try.prog 30 #[.pointer (some ⟨b, 0, none⟩), .int .i64 n] w fun e w' => e = .returned (.bool (isB S n)) ∧ w = w' := by
  obtain ⟨sv, fv, h1, h2, h3, _⟩ := h
  obtain ⟨_, c1, _, _⟩ := cells3 h1
  by_cases hn : n < 0
  · rw [show isB S n = false by simp [isB]; omega]
    exact has_neg b n w hn
  · obtain ⟨j, rfl⟩ := Int.eq_ofNat_of_zero_le (show 0 ≤ n by omega)
    by_cases hl : j < S.length
    · obtain ⟨g, cap, rfl, _, _⟩ := ownsRow_pos h2 (by omega)
      have hs : S[j]? = some (S[j].1, S[j].2) := by simp [hl]
      obtain ⟨_, s1, _⟩ := slot_cells h2 rfl hs
      rw [isB_mk hs]
      exact has_in b g _ w _ cap j _ c1 rfl hl s1
    · obtain ⟨a, cap, rfl, _, _⟩ := ownsRow_shape h2
      rw [show isB S (j : Int) = false by simp [isB, List.getElem?_eq_none (show S.length ≤ j by omega)]]
      exact has_far b _ w a _ cap c1 (by omega) (by omega)

set_option maxHeartbeats 400000 in
theorem get_no {w : World} {b : Nat} {X : List Nat} {m : Int} {S : List (Int × Bool)} {F : List Nat} (h : ArI w b X m S F) (n : Int) (hn : isB S n = false) :
    Calls Try.prog 14 #[.pointer (some ⟨b, 0, none⟩), .int .i64 n] w fun e w' => e = .returned (.tuple #[.int .i64 0, .bool false]) ∧ w = w' := by
  have hh := has_any h n
  rw [hn] at hh
  have H := Lib.hid hh
  clear hh hn h
  go_enter Try.func14, Try.ntmps14
  go_wp2_with (go_at_call 30; refine H.out.mono ?_; rintro e w' ⟨rfl, rfl⟩)
  go_ret2
  exact ⟨rfl, rfl⟩
set_option maxHeartbeats 400000 in
theorem get_yes {w : World} {b : Nat} {X : List Nat} {m : Int} {S : List (Int × Bool)} {F : List Nat} (h : ArI w b X m S F) (n : Int) (j : Nat) (v : Int) (hn : n = j) (hj : S[j]? = some (v, true)) :
    Calls Try.prog 14 #[.pointer (some ⟨b, 0, none⟩), .int .i64 n] w fun e w' => e = .returned (.tuple #[.int .i64 v, .bool true]) ∧ w = w' := by
  subst hn
  have hh := has_any h (j : Int)
  rw [isB_mk hj] at hh
  have H := Lib.hid hh
  obtain ⟨sv, fv, h1, h2, h3, _⟩ := h
  obtain ⟨_, c1, _, _⟩ := cells3 h1
  have hl : j < S.length := (List.getElem?_eq_some_iff.1 hj).1
  obtain ⟨g, cap, rfl, _, _⟩ := ownsRow_pos h2 (by omega)
  obtain ⟨s0, s1, _⟩ := slot_cells h2 rfl hj
  have i0 : (0 : Int) ≤ j := by omega
  have i1 : (j : Int) < S.length := by omega
  clear hh hj h1 h2 h3
  go_enter Try.func14, Try.ntmps14
  go_wp2_with (go_at_call 30; refine H.out.mono ?_; rintro e w' ⟨rfl, rfl⟩)
  go_ret2
  exact ⟨rfl, rfl⟩
set_option maxHeartbeats 400000 in
theorem most_any {w : World} {b : Nat} {X : List Nat} {m : Int} {S : List (Int × Bool)} {F : List Nat} (h : ArI w b X m S F) :
    Calls Try.prog 18 #[.pointer (some ⟨b, 0, none⟩)] w fun e w' => e = .returned (.int .i64 m) ∧ w = w' := by
  obtain ⟨sv, fv, h1, h2, h3, _⟩ := h
  obtain ⟨c0, _, _, _⟩ := cells3 h1
  clear h1 h2 h3
  go_enter Try.func18, Try.ntmps18
  go_wp2
  go_ret
  exact ⟨rfl, rfl⟩
set_option maxHeartbeats 400000 in
theorem len_any {w : World} {b : Nat} {X : List Nat} {m : Int} {S : List (Int × Bool)} {F : List Nat} (h : ArI w b X m S F) (hS : S.length ≤ 1000000) (hF : F.length ≤ 1000000) :
    Calls Try.prog 16 #[.pointer (some ⟨b, 0, none⟩)] w fun e w' => e = .returned (.int .i64 ((S.length : Int) - F.length)) ∧ ∃ n, w' = w.drewN n := by
  obtain ⟨sv, fv, h1, h2, h3, _⟩ := h
  obtain ⟨_, c1, c2, _⟩ := cells3 h1
  obtain ⟨a, cap, rfl, _, _⟩ := ownsRow_shape h2
  obtain ⟨a', cap', rfl, _, _⟩ := ownsRow_shape h3
  clear h1 h2 h3
  go_enter Try.func16, Try.ntmps16
  go_wp2
  go_quiet (fail)
  go_wp2
  go_ret
  exact ⟨rfl, _, rfl⟩
end Go.Proofs.Ytiicbmgompnehaa
