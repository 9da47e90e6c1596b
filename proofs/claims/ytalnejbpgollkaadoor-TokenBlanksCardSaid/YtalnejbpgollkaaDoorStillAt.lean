/-
  A region whose first operations are still, the world behind its draw under a name; what turns nothing. No program.
-/
import Derived.Test.YtalnejbpgollkaaDoorArOwn
import Derived.StillTailTactics
namespace Go.Proofs.YtalnejbpgollkaaDoor
open Go.RowKit

theorem tail_at {P : Program} {id : Nat} {Q : Exit → Act → World → Prop} {a : Act} {w D : World} {l : List Oper} (n : Nat) (hD : w.drew = D) (hm : P.follows .mixedOrders = true) (hB : Region.lexTailB .any l.toArray n = true)
    (h : wpStill P l.toArray D (fun a' => wpList P l.toArray Q (l.drop n) a' D) (l.take n) a) : (Code.region id l.toArray true).wp P Q a w := by
  subst hD
  exact wp_region_still_tail n hm hB h
theorem Turned.j {a b c : World} (h : Turned [] a b) (g : Turned [] b c) : Turned [] a c := h.trans g (Newer.refl _ _)
theorem Turned.up {X : List Nat} {a b : World} (h : Turned [] a b) : Turned X a b := h.mono (fun k hk => by simp at hk)
end Go.Proofs.YtalnejbpgollkaaDoor
