/-
  What Add, Sub, Mul, Compare and Near of package fixq answer, at every argument.
-/
import Derived.Test.YtaohihfhgialnaaFixWide
import Derived.Lib.Hide
namespace Go.Proofs.Ytaohihfhgialnaa
open Go.RowKit Go.Shelf

set_option maxHeartbeats 400000 in
theorem add_any (a b : Int) (ha : Word a) (hb : Word b) (w : World) :
    Calls Try.prog 19 #[.int .u64 a, .int .u64 b] w fun e w' => e = .returned (.tuple #[.int .u64 (satV (a + b)), .int .i64 (satE (a + b))]) ∧ w = w' := by
  by_cases h : a + b ≤ 18446744073709551615
  · rw [satV_fit h, satE_fit h]
    have e1 : hiW (a + b) = 0 := by have := ha.1; have := hb.1; unfold hiW; omega
    have e2 : loW (a + b) = a + b := by have := ha.1; have := hb.1; unfold loW; omega
    have A := add64 a b ha hb
    rw [e1, e2] at A
    clear e1 e2 h
    go_enter Try.func19, Try.ntmps19
    go_wp2
    go_ret2
    exact ⟨rfl, rfl⟩
  · rw [satV_big h, satE_big h]
    have e1 : hiW (a + b) = 1 := by have := ha.2; have := hb.2; unfold hiW; omega
    have A := add64 a b ha hb
    rw [e1] at A
    clear e1 h
    go_enter Try.func19, Try.ntmps19
    go_wp2
    go_ret2
    exact ⟨rfl, rfl⟩

set_option maxHeartbeats 400000 in
theorem near_any (a w t all k : Int) (ha : Word a) (hw : Word w) (ht : Word t) (hl : Word all) (hk : Word k) (W : World) :
    Calls Try.prog 22 #[.int .u64 a, .int .u64 w, .int .u64 t, .int .u64 all, .int .u64 k] W fun e w' => e = .returned (.bool (nearB a w t all k)) ∧ Below W.heap.size W w' := by
  have e1 : nearB a w t all k = decide (ordW (wid (hiW (dist (a * all) (w * t))) (loW (dist (a * all) (w * t)))) (wid (hiW (k * all)) (loW (k * all))) ≤ 0) := by
    unfold nearB
    rw [wid_hl, wid_hl]
    exact decide_eq_decide.2 ordW_le.symm
  rw [e1]
  clear e1
  have A := apart_any (hiW (a * all)) (loW (a * all)) (hiW (w * t)) (loW (w * t)) (hiW_word ha hl) (loW_word _) (hiW_word hw ht) (loW_word _)
  rw [wid_hl, wid_hl] at A
  have A' := Lib.hid A
  clear A
  go_enter Try.func22, Try.ntmps22
  go_wp2_with (first | (go_at_call 29; refine (product_any _ _ (by assumption) (by assumption) _).mono ?_; rintro e w1 ⟨rfl, rfl⟩) | (go_at_call 28; refine (A'.out _).mono ?_; rintro e w1 ⟨rfl, hb1⟩) | (go_at_call 27; refine (order_any _ _ _ _ (loW_word _) (loW_word _) _).mono ?_; rintro e w2 ⟨rfl, rfl⟩))
  go_ret
  have hz := hb1.size
  simp at hz
  refine ⟨rfl, ?_⟩
  have b0 : Below W.heap.size W ((W.alloc (.cells #[.int .u64 (hiW (a * all)), .int .u64 (loW (a * all))] 57)).alloc (.cells #[.int .u64 (hiW (w * t)), .int .u64 (loW (w * t))] 57)) := ((Below.refl _ _).alloc (Nat.le_refl _) _).alloc (by simp) _
  have b1 := b0.trans (hb1.mono (by simp; omega))
  exact ((b1.alloc (by omega) _).alloc (by simp; omega) _).alloc (by simp; omega) _

end Go.Proofs.Ytaohihfhgialnaa
