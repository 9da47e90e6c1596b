/-
  Numbers of 128 bits: what product, order and apart of package fixq answer.
-/
import Derived.Test.YtaohihfhgialnaaFixBits
namespace Go.Proofs.Ytaohihfhgialnaa
open Go.RowKit Go.Shelf

set_option maxHeartbeats 400000 in
theorem product_any (a b : Int) (ha : Word a) (hb : Word b) (w : World) :
    Calls Try.prog 29 #[.int .u64 a, .int .u64 b] w fun e w' => e = .returned (.agg #[.int .u64 (hiW (a * b)), .int .u64 (loW (a * b))]) ∧ w.alloc (.cells #[.int .u64 (hiW (a * b)), .int .u64 (loW (a * b))] 57) = w' := by
  go_enter Try.func29, Try.ntmps29
  go_wp2_with (go_at_call 34; refine (mul64 _ _ ha hb _).mono ?_; rintro e w' ⟨rfl, rfl⟩)
  simp [bodyPost, results, Try.results29, go_sem]

set_option maxHeartbeats 400000 in
theorem order_any (xh xl yh yl : Int) (h2 : Word xl) (h4 : Word yl) (w : World) :
    Calls Try.prog 27 #[.agg #[.int .u64 xh, .int .u64 xl], .agg #[.int .u64 yh, .int .u64 yl]] w fun e w' => e = .returned (.int .i64 (ordW (wid xh xl) (wid yh yl))) ∧
      (w.alloc (.cells #[.int .u64 xh, .int .u64 xl] 57)).alloc (.cells #[.int .u64 yh, .int .u64 yl] 57) = w' := by
  by_cases h : xh = yh
  · subst h
    rw [ordW_same]
    go_enter Try.func27, Try.ntmps27
    go_wp2_with (go_at_call 32; refine (cmp_any _ _ _).mono ?_; rintro e w' ⟨rfl, rfl⟩)
    go_ret
    exact ⟨rfl, rfl⟩
  · rw [ordW_high h h2 h4]
    go_enter Try.func27, Try.ntmps27
    go_wp2_with (go_at_call 32; refine (cmp_any _ _ _).mono ?_; rintro e w' ⟨rfl, rfl⟩)
    go_ret
    exact ⟨rfl, rfl⟩

theorem bcell {W w1 : World} (hb : Below W.heap.size W w1) : (∀ b o, b < W.heap.size → w1.cell? ⟨b, o, none⟩ = W.cell? ⟨b, o, none⟩) ∧ (∀ b o, b < W.heap.size → w1.frozen? ⟨b, o, none⟩ = W.frozen? ⟨b, o, none⟩) :=
  ⟨fun b o h => hb.cell (p := ⟨b, o, none⟩) h, fun b o h => hb.frozen (p := ⟨b, o, none⟩) h⟩

set_option maxHeartbeats 800000 in
theorem apart_any (xh xl yh yl : Int) (h1 : Word xh) (h2 : Word xl) (h3 : Word yh) (h4 : Word yl) (w : World) :
    Calls Try.prog 28 #[.agg #[.int .u64 xh, .int .u64 xl], .agg #[.int .u64 yh, .int .u64 yl]] w fun e w' =>
      e = .returned (.agg #[.int .u64 (hiW (dist (wid xh xl) (wid yh yl))), .int .u64 (loW (dist (wid xh xl) (wid yh yl)))]) ∧ Below w.heap.size w w' := by
  by_cases h : wid xh xl < wid yh yl
  · rw [dist_comm]
    obtain ⟨k0, k1⟩ := borW_bd h4 h2
    rw [← apart_low (by omega), ← apart_high h3 h4 h1 h2 (by omega)]
    have e1 : (ordW (wid xh xl) (wid yh yl) < 0) = True := by rw [ordW_lt h]; simp
    clear h
    go_enter Try.func28, Try.ntmps28
    go_wp2_with (first | (go_at_call 27; refine (order_any _ _ _ _ h2 h4 _).mono ?_; rintro e w1 ⟨rfl, rfl⟩) | simp only [sub64_0 yl xl h4 h2] | simp only [sub64 yh xh _ h3 h1 k0 k1])
    simp [bodyPost, results, Try.results28, go_sem]
    repeat (first | exact Below.refl _ _ | refine Below.alloc ?_ (by simp <;> omega) _ | refine Below.setCell ?_ (by simp <;> omega) _)
  · obtain ⟨k0, k1⟩ := borW_bd h2 h4
    rw [← apart_low (by omega), ← apart_high h1 h2 h3 h4 (by omega)]
    have e1 : (ordW (wid xh xl) (wid yh yl) < 0) = False := by
      have := ordW_ge h
      simp; omega
    clear h
    go_enter Try.func28, Try.ntmps28
    go_wp2_with (first | (go_at_call 27; refine (order_any _ _ _ _ h2 h4 _).mono ?_; rintro e w1 ⟨rfl, rfl⟩) | simp only [sub64_0 xl yl h2 h4] | simp only [sub64 xh yh _ h1 h3 k0 k1])
    simp [bodyPost, results, Try.results28, go_sem]
    repeat (first | exact Below.refl _ _ | refine Below.alloc ?_ (by simp <;> omega) _ | refine Below.setCell ?_ (by simp <;> omega) _)
end Go.Proofs.Ytaohihfhgialnaa
