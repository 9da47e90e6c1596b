/-
  comesAhead: which of two is due ahead of the other.
-/
import Derived.Test.YthhdidcmiiglbaaHbAt
import Derived.Deep.RegionHeld3
import Derived.StillTailTactics
import Derived.IntWalk
namespace Go.Proofs.Ythhdidcmiiglbaa
open Go.RowKit

/-- Reads and quiet calls ahead of a forced tail, the world behind the draw under a name of its own. -/
theorem tail_at {P : Program} {id : Nat} {Q : Exit → Act → World → Prop} {a : Act} {w D : World} {l : List Oper} (n : Nat) (hD : w.drew = D) (hm : P.follows .mixedOrders = true) (hB : Region.lexTailB .any l.toArray n = true)
    (h : wpStill P l.toArray D (fun a' => wpList P l.toArray Q (l.drop n) a' D) (l.take n) a) : (Code.region id l.toArray true).wp P Q a w := by
  subst hD
  exact wp_region_still_tail n hm hB h
theorem Turned.j {a b c : World} (h : Turned [] a b) (g : Turned [] b c) : Turned [] a c := h.trans g (Newer.refl _ _)
theorem Turned.up {X : List Nat} {a b : World} (h : Turned [] a b) : Turned X a b := h.mono (fun k hk => by simp at hk)

theorem two_cells {w : World} {b : Nat} {x y : Value} {t : TypeId} (h : w.heap[b]? = some (.cells #[x, y] t (0, 0))) :
    w.cell? ⟨b, 0, none⟩ = some x ∧ w.cell? ⟨b, 1, none⟩ = some y ∧ ∀ i, w.frozen? ⟨b, i, none⟩ = false := cells2 h

set_option maxHeartbeats 400000 in
theorem less_any (a1 a2 b1 b2 : Int) (w : World) : Calls Try.prog 58 #[.agg #[.int .u64 a1, .int .i64 a2], .agg #[.int .u64 b1, .int .i64 b2]] w fun e w' => e = .returned (.bool (decide (KLt (a1, a2) (b1, b2)))) ∧ Turned [] w w' := by
  have hT : Turned [] w ((w.alloc (.cells #[.int .u64 a1, .int .i64 a2] 30)).alloc (.cells #[.int .u64 b1, .int .i64 b2] 30)) := ((Turned.refl [] w).alloc _).alloc _
  have HT := Lib.hid hT
  clear hT
  by_cases h1 : a1 = b1
  · subst h1
    have e : decide (KLt (a1, a2) (a1, b2)) = decide (a2 < b2) := by
      apply decide_eq_decide.2
      unfold KLt
      simp
    rw [e]
    have hn : (a1 != a1) = false := by simp
    clear e
    go_enter Try.func58, Try.ntmps58
    go_wp2
    go_ret
    exact ⟨rfl, HT.out⟩
  · have e : decide (KLt (a1, a2) (b1, b2)) = decide (a1 < b1) := by
      apply decide_eq_decide.2
      unfold KLt
      simp [h1]
    rw [e]
    have hn : (a1 != b1) = true := by simpa using h1
    clear e
    go_enter Try.func58, Try.ntmps58
    go_wp2
    go_ret
    exact ⟨rfl, HT.out⟩
end Go.Proofs.Ythhdidcmiiglbaa
