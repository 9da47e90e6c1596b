/-
  Arena[node[int]]: New, has, Get, Len, Most (element type api.Wait; made by gen_ffw.py).
-/
import Derived.Test.YtiffgkmmibhklaaGA
import Derived.Test.YtiffgkmmibhklaaAnCellsW
namespace Go.Proofs.Ytiffgkmmibhklaa.Wq
open Go.RowKit

/-- A node: its value, its ticket, the places ahead and behind. -/
abbrev encN (x : Nd Wt) : List Value := [.int .i64 x.1.1, .int .i64 x.1.2.1, .int .u64 x.1.2.2, .int .i64 x.2.1, .int .i64 x.2.2.1, .int .i64 x.2.2.2]
abbrev ndV (x : Nd Wt) : Value := .agg #[.int .i64 x.1.1, .int .i64 x.1.2.1, .int .u64 x.1.2.2, .int .i64 x.2.1, .int .i64 x.2.2.1, .int .i64 x.2.2.2]
abbrev ndC (x : Nd Wt) : Obj := .cells #[.int .i64 x.1.1, .int .i64 x.1.2.1, .int .u64 x.1.2.2, .int .i64 x.2.1, .int .i64 x.2.2.1, .int .i64 x.2.2.2] 99
theorem encN_len (x : Nd Wt) : (encN x).length = 6 := rfl
theorem encN_one (x : Nd Wt) : ∀ u ∈ encN x, u.oneCell' = true := by
  intro u hu
  simp at hu
  rcases hu with rfl | rfl | rfl | rfl | rfl | rfl <;> rfl
abbrev tAn : TypeId := 125
abbrev tSn : TypeId := 122
abbrev tNd : TypeId := 99
abbrev AnI (w : World) (b : Nat) (X : List Nat) (m : Int) (S : List (Nd Wt × Bool)) (F : List Nat) : Prop := ArAt tAn tSn encN 6 w b X m S F

theorem nd_result {fn : Func} {p u : Tmp} (hf : fn.results = #[.cell p tNd, .tmp u]) {tmps : Array Value} {w : World} {B : Nat} {x1 x2 x3 y z t a : Value} (hp : tmps.getD p undef = .pointer (some ⟨B, 0, none⟩)) (hu : tmps.getD u undef = a)
    (h : w.heap[B]? = some (.cells #[x1, x2, x3, y, z, t] tNd (0, 0))) : (results fn tmps).run Try.prog w = .ok (.tuple #[.agg #[x1, x2, x3, y, z, t], a]) w := by
  obtain ⟨h0, h1, h2, h3, h4, h5, _⟩ := cells6 h
  rw [results_ct hf, hp, hu]
  simp [loadVar, go_sem, h0, h1, h2, h3, h4, h5]

theorem an_slot {w : World} {g n cap : Nat} {S : List (Nd Wt × Bool)} {j : Nat} {v : Nd Wt} {t : Bool} (h : w.ownsRow 0 tSn 7 (.slice (some ⟨g, 0, none⟩) n cap) n (slots encN S)) (hn : n = S.length) (hj : S[j]? = some (v, t)) :
    w.cell? ⟨g, j * 7, none⟩ = some (.int .i64 v.1.1) ∧ w.cell? ⟨g, j * 7 + 1, none⟩ = some (.int .i64 v.1.2.1) ∧ w.cell? ⟨g, j * 7 + 2, none⟩ = some (.int .u64 v.1.2.2) ∧ w.cell? ⟨g, j * 7 + 3, none⟩ = some (.int .i64 v.2.1) ∧ w.cell? ⟨g, j * 7 + 4, none⟩ = some (.int .i64 v.2.2.1) ∧ w.cell? ⟨g, j * 7 + 5, none⟩ = some (.int .i64 v.2.2.2) ∧ w.cell? ⟨g, j * 7 + 6, none⟩ = some (.bool t) ∧
      ∀ i, w.frozen? ⟨g, i, none⟩ = false := by
  obtain ⟨hl, he⟩ := List.getElem?_eq_some_iff.1 hj
  have g0 := slots_get (enc := encN) (k := 6) (fun _ => rfl) S j 0 hl (by omega)
  have g1 := slots_get (enc := encN) (k := 6) (fun _ => rfl) S j 1 hl (by omega)
  have g2 := slots_get (enc := encN) (k := 6) (fun _ => rfl) S j 2 hl (by omega)
  have g3 := slots_get (enc := encN) (k := 6) (fun _ => rfl) S j 3 hl (by omega)
  have g4 := slots_get (enc := encN) (k := 6) (fun _ => rfl) S j 4 hl (by omega)
  have g5 := slots_get (enc := encN) (k := 6) (fun _ => rfl) S j 5 hl (by omega)
  have g6 := slots_get (enc := encN) (k := 6) (fun _ => rfl) S j 6 hl (by omega)
  rw [he] at g0 g1 g2 g3 g4 g5 g6
  refine ⟨?_, ?_, ?_, ?_, ?_, ?_, ?_, fun i => h.frozenAt _⟩
  · rw [h.cellAt _ (by omega)]; simpa using g0
  · rw [h.cellAt _ (by omega)]; simpa using g1
  · rw [h.cellAt _ (by omega)]; simpa using g2
  · rw [h.cellAt _ (by omega)]; simpa using g3
  · rw [h.cellAt _ (by omega)]; simpa using g4
  · rw [h.cellAt _ (by omega)]; simpa using g5
  · rw [h.cellAt _ (by omega)]; simpa using g6

set_option maxHeartbeats 400000 in
theorem anhas_neg (b : Nat) (n : Int) (w : World) (hn : n < 0) : Calls Try.prog 71 #[.pointer (some ⟨b, 0, none⟩), .int .i64 n] w fun e w' => e = .returned (.bool false) ∧ w = w' := by
  go_enter Try.func71, Try.ntmps71
  go_wp2
  go_ret
  exact ⟨rfl, rfl⟩
set_option maxHeartbeats 400000 in
theorem anhas_far (b : Nat) (n : Int) (w : World) (a : Option Addr) (len cap : Nat) (hc : w.cell? ⟨b, 1, none⟩ = some (.slice a len cap)) (hn : 0 ≤ n) (hl : (len : Int) ≤ n) :
    Calls Try.prog 71 #[.pointer (some ⟨b, 0, none⟩), .int .i64 n] w fun e w' => e = .returned (.bool false) ∧ w = w' := by
  go_enter Try.func71, Try.ntmps71
  go_wp2
  go_ret
  exact ⟨rfl, rfl⟩
set_option maxHeartbeats 400000 in
theorem anhas_in (b g : Nat) (n : Int) (w : World) (len cap j : Nat) (t : Bool) (hc : w.cell? ⟨b, 1, none⟩ = some (.slice (some ⟨g, 0, none⟩) len cap)) (hn : n = j) (hl : j < len) (ht : w.cell? ⟨g, j * 7 + 6, none⟩ = some (.bool t)) :
    Calls Try.prog 71 #[.pointer (some ⟨b, 0, none⟩), .int .i64 n] w fun e w' => e = .returned (.bool t) ∧ w = w' := by
  subst hn
  have h0 : (0 : Int) ≤ j := by omega
  have h1 : (j : Int) < len := by omega
  go_enter Try.func71, Try.ntmps71
  go_wp2
  go_ret
  exact ⟨rfl, rfl⟩

theorem anhas_any {w : World} {b : Nat} {X : List Nat} {m : Int} {S : List (Nd Wt × Bool)} {F : List Nat} (h : AnI w b X m S F) (n : Int) :
    Calls Try.prog 71 #[.pointer (some ⟨b, 0, none⟩), .int .i64 n] w fun e w' => e = .returned (.bool (isB S n)) ∧ w = w' := by
  obtain ⟨sv, fv, h1, h2, h3, _⟩ := h
  obtain ⟨_, c1, _, _⟩ := cells3a h1
  by_cases hn : n < 0
  · rw [show isB S n = false by simp [isB]; omega]
    exact anhas_neg b n w hn
  · obtain ⟨j, rfl⟩ := Int.eq_ofNat_of_zero_le (show 0 ≤ n by omega)
    by_cases hl : j < S.length
    · obtain ⟨g, cap, rfl, _, _⟩ := ownsRow_pos h2 (by omega)
      have hs : S[j]? = some (S[j].1, S[j].2) := by simp [hl]
      obtain ⟨_, _, _, _, _, _, s1, _⟩ := an_slot h2 rfl hs
      rw [isB_mk hs]
      exact anhas_in b g _ w _ cap j _ c1 rfl hl s1
    · obtain ⟨a, cap, rfl, _, _⟩ := ownsRow_shape h2
      rw [show isB S (j : Int) = false by simp [isB, List.getElem?_eq_none (show S.length ≤ j by omega)]]
      exact anhas_far b _ w a _ cap c1 (by omega) (by omega)

set_option maxHeartbeats 400000 in
theorem anget_no {w : World} {b : Nat} {X : List Nat} {m : Int} {S : List (Nd Wt × Bool)} {F : List Nat} (h : AnI w b X m S F) (n : Int) (hn : isB S n = false) :
    Calls Try.prog 54 #[.pointer (some ⟨b, 0, none⟩), .int .i64 n] w fun e w' => e = .returned (.tuple #[ndV ((0, 0, 0), 0, 0, 0), .bool false]) ∧ Turned [] w w' := by
  have T0 := (Turned.refl [] w).alloc (ndC ((0, 0, 0), 0, 0, 0))
  have HH := Lib.hid (anhas_any (h.keep T0 (by simp)) n)
  rw [hn] at HH
  have HB := Lib.hid ((Below.heap_alloc (w.alloc (ndC ((0, 0, 0), 0, 0, 0))) (ndC ((0, 0, 0), 0, 0, 0)) w.heap.size (by simp)).trans (heap_alloc_new w (ndC ((0, 0, 0), 0, 0, 0))))
  have HT := Lib.hid (T0.alloc (ndC ((0, 0, 0), 0, 0, 0)))
  clear hn h T0
  go_enter Try.func54, Try.ntmps54
  go_wp2_with (go_at_call 71; refine HH.out.mono ?_; rintro e w' ⟨rfl, rfl⟩)
  refine bodyPost_ret (nd_result rfl rfl rfl HB.out) rfl ?_
  exact ⟨rfl, HT.out⟩
set_option maxHeartbeats 400000 in
theorem anget_yes {w : World} {b : Nat} {X : List Nat} {m : Int} {S : List (Nd Wt × Bool)} {F : List Nat} (h : AnI w b X m S F) (n : Int) (j : Nat) (v : Nd Wt) (hn : n = j) (hj : S[j]? = some (v, true)) :
    Calls Try.prog 54 #[.pointer (some ⟨b, 0, none⟩), .int .i64 n] w fun e w' => e = .returned (.tuple #[ndV v, .bool true]) ∧ Turned [] w w' := by
  subst hn
  obtain ⟨v1, v2, v3, v4⟩ := v
  have T0 := (Turned.refl [] w).alloc (ndC ((0, 0, 0), 0, 0, 0))
  have hk := h.keep T0 (by simp)
  have HH := Lib.hid (anhas_any hk (j : Int))
  rw [isB_mk hj] at HH
  obtain ⟨sv, fv, h1, h2, h3, _⟩ := hk
  obtain ⟨_, c1, _, _⟩ := cells3a h1
  have hl : j < S.length := (List.getElem?_eq_some_iff.1 hj).1
  obtain ⟨g, cap, rfl, _, _⟩ := ownsRow_pos h2 (by omega)
  obtain ⟨s0, s1, s2, s3, s4, s5, s6, _⟩ := an_slot h2 rfl hj
  have i0 : (0 : Int) ≤ j := by omega
  have i1 : (j : Int) < S.length := by omega
  have HB := Lib.hid (heap_alloc_new w (ndC (v1, v2, v3, v4)))
  have HT := Lib.hid ((Turned.refl [] w).alloc (ndC (v1, v2, v3, v4)))
  clear hj h1 h2 h3 h T0
  go_enter Try.func54, Try.ntmps54
  go_wp2_with (go_at_call 71; refine HH.out.mono ?_; rintro e w' ⟨rfl, rfl⟩)
  refine bodyPost_ret (nd_result rfl rfl rfl HB.out) rfl ?_
  exact ⟨rfl, HT.out⟩
set_option maxHeartbeats 400000 in
theorem anmost_any {w : World} {b : Nat} {X : List Nat} {m : Int} {S : List (Nd Wt × Bool)} {F : List Nat} (h : AnI w b X m S F) :
    Calls Try.prog 76 #[.pointer (some ⟨b, 0, none⟩)] w fun e w' => e = .returned (.int .i64 m) ∧ ∃ n, w' = w.drewN n := by
  obtain ⟨sv, fv, h1, h2, h3, _⟩ := h
  obtain ⟨c0, _, _, _⟩ := cells3a h1
  clear h1 h2 h3
  go_enter Try.func76, Try.ntmps76
  go_wp2
  go_ret
  exact ⟨rfl, 0, rfl⟩
set_option maxHeartbeats 400000 in
theorem anlen_any {w : World} {b : Nat} {X : List Nat} {m : Int} {S : List (Nd Wt × Bool)} {F : List Nat} (h : AnI w b X m S F) (hS : S.length ≤ 1000000) (hF : F.length ≤ 1000000) :
    Calls Try.prog 61 #[.pointer (some ⟨b, 0, none⟩)] w fun e w' => e = .returned (.int .i64 ((S.length : Int) - F.length)) ∧ ∃ n, w' = w.drewN n := by
  obtain ⟨sv, fv, h1, h2, h3, _⟩ := h
  obtain ⟨_, c1, c2, _⟩ := cells3a h1
  obtain ⟨a, cap, rfl, _, _⟩ := ownsRow_shape h2
  obtain ⟨a', cap', rfl, _, _⟩ := ownsRow_shape h3
  clear h1 h2 h3
  go_enter Try.func61, Try.ntmps61
  go_wp2
  go_quiet (fail)
  go_wp2
  go_ret
  exact ⟨rfl, _, rfl⟩
theorem annew_any (m : Int) (w : World) : Calls Try.prog 75 #[.int .i64 m] w fun e w' => e = .returned (.pointer (some ⟨w.heap.size, 0, none⟩)) ∧
    w' = w.alloc (.cells #[.int .i64 (min (max m 0) 4096), .slice none 0 0, .slice none 0 0] tAn) := by
  by_cases h0 : m < 0
  · rw [show min (max m 0) 4096 = 0 by omega]
    go_enter Try.func75, Try.ntmps75
    go_wp2
    go_ret
    exact ⟨rfl, rfl⟩
  · by_cases h1 : m > 4096
    · rw [show min (max m 0) 4096 = 4096 by omega]
      have h1' : 4096 < m := by omega
      clear h1
      go_enter Try.func75, Try.ntmps75
      go_wp2
      go_ret
      exact ⟨rfl, rfl⟩
    · rw [show min (max m 0) 4096 = m by omega]
      have h0' : 0 ≤ m := by omega
      have h1' : m ≤ 4096 := by omega
      clear h0 h1
      go_enter Try.func75, Try.ntmps75
      go_wp2
      go_ret
      exact ⟨rfl, rfl⟩
end Go.Proofs.Ytiffgkmmibhklaa.Wq
