/-
  The document's heap: New, Push, Take.
-/
import Derived.Test.YthhdidcmiiglbaaHpFirst
import Derived.Deep.RegionLaw
namespace Go.Proofs.Ythhdidcmiiglbaa
open Go.RowKit

theorem infoI4 : (Try.prog.info? tI4).map (fun i => (i.zero, i.size, i.bytes)) = some (some (.agg #[.int .u64 0, .int .i64 0, .int .i64 0]), 3, 24) := by kernel_rfl
theorem three_new_at (w : World) (B : Nat) (hB : w.heap.size = B) (x y z : Value) (t : TypeId) : ∀ j u, [x, y, z][j]? = some u → (w.alloc (.cells #[x, y, z] t)).cell? ((⟨B, 0, none⟩ : Addr).add j) = some u := by
  subst hB
  intro j u hj
  have hh := heap_alloc_new w (.cells #[x, y, z] t)
  rw [Addr.add_lit]
  simp only [World.cell?, hh]
  match j, hj with
  | 0, hj => simpa using hj
  | 1, hj => simpa using hj
  | 2, hj => simpa using hj

set_option maxHeartbeats 400000 in
theorem rnew4_any (m : Int) (w : World) : Calls Try.prog 7 #[.int .i64 m] w fun e w' => e = .returned (.pointer (some ⟨w.heap.size, 0, none⟩)) ∧
    R4 w' w.heap.size [w.heap.size] (min (max m 0) 4096) [] ∧ Turned [] w w' := by
  have hfin : ∀ q : Int, R4 (w.alloc (.cells #[.int .i64 q, .slice none 0 0] tH4)) w.heap.size [w.heap.size] q [] ∧ Turned [] w (w.alloc (.cells #[.int .i64 q, .slice none 0 0] tH4)) :=
    fun q => ⟨⟨.slice none 0 0, heap_alloc_new w _, World.ownsRow_nil _ _ _ _, rfl⟩, (Turned.refl _ w).alloc _⟩
  have HF := Lib.hid hfin
  clear hfin
  by_cases h0 : m < 0
  · rw [show min (max m 0) 4096 = 0 by omega]
    go_enter Try.func7, Try.ntmps7
    go_wp2
    go_ret
    exact ⟨rfl, HF.out 0⟩
  · by_cases h1 : m > 4096
    · rw [show min (max m 0) 4096 = 4096 by omega]
      have h1' : 4096 < m := by omega
      clear h1
      go_enter Try.func7, Try.ntmps7
      go_wp2
      go_ret
      exact ⟨rfl, HF.out 4096⟩
    · rw [show min (max m 0) 4096 = m by omega]
      have h0' : 0 ≤ m := by omega
      have h1' : m ≤ 4096 := by omega
      clear h0 h1
      go_enter Try.func7, Try.ntmps7
      go_wp2
      go_ret
      exact ⟨rfl, HF.out m⟩

/-- What Push answers, and what is there behind it. -/
def pushE (m : Int) (L : List It) (id : Int) : Int := if 0 ≤ hasI L id then 12 else if m ≤ L.length then 3 else 0
def pushL (m : Int) (L : List It) (x : It) : List It := if pushE m L x.2.1 = 0 then L ++ [x] else L

set_option maxHeartbeats 400000 in
theorem rpush_no {w : World} {b : Nat} {X : List Nat} {m : Int} {L : List It} (h : R4 w b X m L) (x : It) (hp : pushE m L x.2.1 ≠ 0) :
    Calls Try.prog 9 #[.pointer (some ⟨b, 0, none⟩), .agg #[.int .u64 x.1, .int .i64 x.2.1], .int .i64 x.2.2] w fun e w' => e = .returned (.int .i64 (pushE m L x.2.1)) ∧ Turned [] w w' := by
  obtain ⟨x1, x2, x3⟩ := x
  simp only at hp ⊢
  have HH := Lib.hid (fun (o : Obj) => rhas_any (w := w.alloc o) (h.keep ((Turned.refl [] w).alloc o) (by simp)) x2)
  have ht := Lib.hid (fun o n => ((Turned.refl [] w).alloc o).drewN n)
  have hb := h.lt b h.head
  have hb' : b ≠ w.heap.size := by omega
  obtain ⟨a, cap, c0, c1, hr⟩ := h.rows
  clear h hr
  by_cases h0 : 0 ≤ hasI L x2
  · rw [show pushE m L x2 = 12 by simp [pushE, h0]]
    obtain ⟨q, hq⟩ : ∃ q, hasI L x2 = q := ⟨_, rfl⟩
    rw [hq] at HH h0
    clear hp hq
    go_enter Try.func9, Try.ntmps9
    go_wp2_with (go_at_call 14; refine (HH.out _).mono ?_; rintro e w' ⟨rfl, rfl⟩)
    go_ret
    exact ⟨rfl, ht.out _ 0⟩
  · have hm : m ≤ L.length := by
      simp only [pushE, if_neg h0] at hp
      by_cases hm : m ≤ L.length
      · exact hm
      · rw [if_neg hm] at hp
        exact absurd rfl hp
    rw [show pushE m L x2 = 3 by simp [pushE, h0, hm]]
    obtain ⟨q, hq⟩ : ∃ q, hasI L x2 = q := ⟨_, rfl⟩
    rw [hq] at HH h0
    have h0' : q < 0 := by omega
    clear hp hq h0
    go_enter Try.func9, Try.ntmps9
    go_wp2_with (go_at_call 14; refine (HH.out _).mono ?_; rintro e w' ⟨rfl, rfl⟩)
    go_quiet (fail)
    go_wp2
    go_ret
    exact ⟨rfl, ht.out _ _⟩

set_option maxRecDepth 100000 in
set_option maxHeartbeats 800000 in
theorem rpush_yes {w : World} {b : Nat} {X : List Nat} {m : Int} {L : List It} (h : R4 w b X m L) (x : It) (h0 : hasI L x.2.1 < 0) (hm : (L.length : Int) < m) (hL : L.length ≤ 1000000) :
    Calls Try.prog 9 #[.pointer (some ⟨b, 0, none⟩), .agg #[.int .u64 x.1, .int .i64 x.2.1], .int .i64 x.2.2] w fun e w' => e = .returned (.int .i64 0) ∧
      ∃ X', R4 w' b X' m (L ++ [x]) ∧ Turned X w w' ∧ Newer X w.heap.size X' := by
  obtain ⟨x1, x2, x3⟩ := x
  simp only at h0 ⊢
  have HH := Lib.hid (fun (o : Obj) => rhas_any (w := w.alloc o) (h.keep ((Turned.refl [] w).alloc o) (by simp)) x2)
  have hb := h.lt b h.head
  have hb' : b ≠ w.heap.size := by omega
  have hbX := Lib.hid h.head
  obtain ⟨v, h1, h2, h3⟩ := h
  obtain ⟨a, cap, hv, hc1, hc2⟩ := ownsRow_shape h2
  obtain ⟨c0, c1, hfr⟩ := cells2 h1
  have f1 := hfr 1
  have H1 := Lib.hid h1
  have H2 := Lib.hid h2
  have H3 := Lib.hid h3
  have HV := Lib.hid hv
  rw [hv] at c1
  obtain ⟨q, hq⟩ : ∃ q, hasI L x2 = q := ⟨_, rfl⟩
  rw [hq] at HH h0
  obtain ⟨ii, hi, hz0, hz1, hz2⟩ := info_parts infoI4
  clear hq h1 h2 h3 hv hfr
  go_enter Try.func9, Try.ntmps9
  go_wp2_with (go_at_call 14; refine (HH.out _).mono ?_; rintro e w' ⟨rfl, rfl⟩)
  go_quiet (fail)
  go_wp2_with (fail)
  obtain ⟨W, hW⟩ : ∃ W, (w.alloc (.cells #[.int .u64 x1, .int .i64 x2] 30)).drewN nq = W := ⟨_, rfl⟩
  have T0 : Turned [] w W := hW ▸ (((Turned.refl [] w).alloc _).drewN nq)
  have S0 : W.heap.size = w.heap.size + 1 := by rw [← hW]; simp
  have n0 : w.heap.size < W.heap.size := by omega
  have n1 : b < W.heap.size := by omega
  have HS0 := Lib.hid S0
  clear S0
  have K0 : W.heap[w.heap.size]? = some (.cells #[.int .u64 x1, .int .i64 x2] 30 (0, 0)) := by rw [← hW]; exact heap_alloc_new w _
  obtain ⟨k0, k1, _⟩ := cells2 K0
  have H1 := Lib.hid (T0.same H1.out (by simp))
  have H2 := Lib.hid (ownsRow_same H2.out fun k _ hl => T0.block k hl (by simp))
  have T0 := Lib.hid T0
  have e0 : W.cell? ⟨b, 0, none⟩ = some (.int .i64 m) := (cells2 H1.out).1
  have e1 : W.cell? ⟨b, 1, none⟩ = some (.slice a L.length cap) := by rw [← HV.out]; exact (cells2 H1.out).2.1
  have g1 : W.frozen? ⟨b, 1, none⟩ = false := (cells2 H1.out).2.2 1
  rw [hW]
  clear c0 c1 f1 hW K0
  go_region_law (refine step_append_any _ rfl _ _ 46 rfl tI4 ii (.agg #[.int .u64 0, .int .i64 0, .int .i64 0]) 3 24 Try.underlying46 hi hz0 hz1 hz2 rfl (by decide) _ L.length (cellsOf encIt L) rfl (by rw [← HV.out]; exact H2.out.alloc _) (some ⟨W.heap.size, 0, none⟩) 1 1 [.int .u64 x1, .int .i64 x2, .int .i64 x3] rfl rfl (by simp) (by intro ad had; cases had; exact three_new_at _ W.heap.size rfl _ _ _ _) (by intro u hu; simp at hu; rcases hu with rfl | rfl | rfl <;> rfl) (by unfold maxLen; omega) (by omega) ?_; intro a' cap' W1 hown hgrow hnew; have R := LAt.appended (enc := encIt) (cs := fun v => #[.int .i64 m, v]) (i := 1) (v' := .slice a' (L.length + 1) cap') (M := L ++ [(x1, x2, x3)]) (by decide) rfl H1.out H2.out (((Turned.refl [] W).alloc _).drew) (by rw [HV.out]; exact hgrow) (by rw [cellsOf_snoc, List.length_append]; exact hown) (by rw [HV.out]; exact hnew); have d1 := (cells2 R.1).2.1; have d2 := (cells2 R.1).2.2 1; have RR := Lib.hid R.2; clear hown hgrow hnew R)
  all_goals
    go_wp2
    go_ret
    obtain ⟨r1, r2, r3⟩ := RR.out
    have hX := H3.out
    subst hX
    exact ⟨rfl, _, r1, (T0.out.mono (fun k hk => by simp at hk)).trans r2 (Newer.refl _ _), r3.mono (by omega)⟩

theorem rpush_any {w : World} {b : Nat} {X : List Nat} {m : Int} {L : List It} (h : R4 w b X m L) (x : It) (hL : L.length ≤ 1000000) :
    Calls Try.prog 9 #[.pointer (some ⟨b, 0, none⟩), .agg #[.int .u64 x.1, .int .i64 x.2.1], .int .i64 x.2.2] w fun e w' => e = .returned (.int .i64 (pushE m L x.2.1)) ∧
      ∃ X', R4 w' b X' m (pushL m L x) ∧ Turned X w w' ∧ Newer X w.heap.size X' := by
  by_cases hp : pushE m L x.2.1 = 0
  · have h0 : hasI L x.2.1 < 0 := by
      simp only [pushE] at hp
      by_cases h0 : 0 ≤ hasI L x.2.1
      · rw [if_pos h0] at hp; omega
      · omega
    have hm : (L.length : Int) < m := by
      simp only [pushE, if_neg (show ¬ 0 ≤ hasI L x.2.1 by omega)] at hp
      by_cases hm : m ≤ L.length
      · rw [if_pos hm] at hp; omega
      · omega
    simp only [pushL, hp, if_true]
    exact rpush_yes h x h0 hm hL
  · simp only [pushL, if_neg hp]
    exact (rpush_no h x hp).mono fun e w' ⟨he, ht⟩ => ⟨he, X, h.keep ht (by simp), ht.mono (fun k hk => by simp at hk), Newer.refl _ _⟩
end Go.Proofs.Ythhdidcmiiglbaa
