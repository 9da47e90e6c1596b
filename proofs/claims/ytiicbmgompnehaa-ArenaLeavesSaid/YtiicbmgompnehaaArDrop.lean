/-
  (*Arena[int]).Drop.
-/
import Derived.Test.YtiicbmgompnehaaArPut
namespace Go.Proofs.Ytiicbmgompnehaa
open Go.RowKit

set_option maxHeartbeats 400000 in
theorem drop_no {w : World} {b : Nat} {X : List Nat} {m : Int} {S : List (Int × Bool)} {F : List Nat} (h : ArI w b X m S F) (n : Int) (hn : isB S n = false) :
    Calls Try.prog 10 #[.pointer (some ⟨b, 0, none⟩), .int .i64 n] w fun e w' => e = .returned (.tuple #[.int .i64 0, .bool false]) ∧ w = w' := by
  have H := Lib.hid (get_no h n hn)
  clear hn h
  go_enter Try.func10, Try.ntmps10
  go_wp2_with (go_at_call 14; refine H.out.mono ?_; rintro e w' ⟨rfl, rfl⟩)
  go_ret2
  exact ⟨rfl, rfl⟩

set_option maxHeartbeats 400000 in
theorem drop_yes {w : World} {b : Nat} {X : List Nat} {m : Int} {S : List (Int × Bool)} {F : List Nat} (h : ArI w b X m S F) (j : Nat) (v : Int) (hj : S[j]? = some (v, true)) (hF : F.length ≤ 1000000) :
    Calls Try.prog 10 #[.pointer (some ⟨b, 0, none⟩), .int .i64 (j : Int)] w fun e w' => e = .returned (.tuple #[.int .i64 v, .bool true]) ∧
      ∃ X', ArI w' b X' m (S.set j (0, false)) (F ++ [j]) ∧ Turned X w w' ∧ Newer X w.heap.size X' := by
  have H := Lib.hid (get_yes h (j : Int) j v rfl hj)
  obtain ⟨sv, fv, h1, h2, h3, hX⟩ := h
  obtain ⟨_, c1, _, _⟩ := cells3 h1
  have hl : j < S.length := (List.getElem?_eq_some_iff.1 hj).1
  obtain ⟨g, cap, rfl, _, _⟩ := ownsRow_pos h2 (by omega)
  obtain ⟨s0, s1, f0, f1⟩ := slot_cells h2 rfl hj
  have R := ArAt.stored (e := Value.int .i64) rfl h1 h2 h3 (by decide) (by decide) j 0 false
  obtain rfl : X = b :: ([g] ++ fv.ownBlock.toList) := hX
  obtain ⟨⟨sv2, fv2, k1, k2, k3, kX⟩, hT⟩ := R
  have i0 : (0 : Int) ≤ (j : Int) := by omega
  have i1 : (j : Int) < (S.length : Int) := by omega
  obtain ⟨_, d1, d2, df⟩ := cells3 k1
  obtain ⟨a', cap', hfv, _, _⟩ := ownsRow_shape k3
  have df2 := df 2
  obtain ⟨ii, hi, hz0, hz1, hz2⟩ := info_parts infoInt
  have K1 := Lib.hid k1
  have K2 := Lib.hid k2
  have K3 := Lib.hid k3
  have KX := Lib.hid kX
  have HT := Lib.hid hT
  have HF := Lib.hid hfv
  rw [hfv] at d2
  clear h1 h2 h3 k1 k2 k3 kX hT hfv df hj
  go_enter Try.func10, Try.ntmps10
  go_wp2_with (first | (go_at_call 14; refine H.out.mono ?_; rintro e w' ⟨rfl, rfl⟩) | (at_builtin; refine wpList_append_at _ rfl _ _ 39 rfl 3 ii (.int .i64 0) 1 8 Try.underlying39 hi hz0 hz1 hz2 rfl (by decide) _ F.length (places F) rfl (by rw [← HF.out]; exact K3.out.alloc _) ⟨w.heap.size, 0, none⟩ 1 1 [.int .i64 (j : Int)] rfl (by decide) rfl (one_new_at _ w.heap.size (by simp) _ _) (by intro u hu; simp at hu; subst hu; rfl) (by unfold maxLen; omega) (by omega) ?_))
  intro g' cp w1 hown hgrow hw _ _
  rw [← HF.out] at hgrow hw
  obtain ⟨hb1, _⟩ := ArAt.freed1 (k := 1) K1.out K2.out K3.out (by decide) (by decide) _ hgrow
  have R := ArAt.freed2 (k := 1) K1.out K2.out K3.out (by decide) (by decide) (by decide) _ hgrow (n := F.length + 1) (G := F ++ [j]) (by simp) (by rw [places_snoc]; exact hown) (by simpa using hw)
  obtain ⟨_, _, e2, hf⟩ := cells3 hb1
  have e3 := hf 2
  have RR := Lib.hid R
  clear hown hgrow hw R hb1 hf c1 d1 d2 df2 s0 s1 f0 f1
  go_wp2
  go_ret2
  obtain ⟨X', r1, r2, r3⟩ := RR.out
  rw [← KX.out] at r2 r3
  exact ⟨rfl, X', r1, HT.out.trans r2 (Newer.refl _ _), r3.mono (by simp)⟩
end Go.Proofs.Ytiicbmgompnehaa
