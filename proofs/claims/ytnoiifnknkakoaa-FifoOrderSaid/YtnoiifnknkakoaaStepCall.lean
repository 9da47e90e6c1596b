/-
  A call of two arguments in a region that draws its order, as one step. No program.
-/
import Derived.Test.YtnoiifnknkakoaaArOwn
import Derived.Shelf.Abstract
import Derived.Deep.RegionLaw
namespace Go.Proofs.Ytnoiifnknkakoaa
open Go.RowKit Go.Shelf

theorem step_call2 {P : Program} (w : World) {ops : Array Oper} {o : Oper} {a : Act} {K : Act → World → Prop} {Q : Exit → Act → World → Prop} {E : Prop} (hgd : o.guard = none) (f : FuncId) (x y : Operand) (tx ty : TypeId)
    (hop : o.op = Op.call { callee := .value (.func f), args := #[x, y], argTypes := #[tx, ty] }) (heg : Enters P f) {vx vy : Value} (hx : a.eval x = vx) (hy : a.eval y = vy)
    {R : Value → World → Prop} (hc : Calls P f #[vx, vy] w fun e w' => ∃ v, e = .returned v ∧ R v w') (hK : ∀ v w', R v w' → K (a.put o.dst v) w') : if Region.wanted o (yielded ops a.tmps) = true then Oper.wp P o a w K Q else E := by
  have hw : Region.wanted o (yielded ops a.tmps) = true := by simp [Region.wanted, hgd]
  rw [if_pos hw]
  have hrun : (execOp a.eval o).run P w = .ok (.enter f #[vx, vy]) w := by
    have he : a.eval (.func f) = .func (.func f) #[] #[] := rfl
    generalize a.eval = ρ at hx hy he
    simp [execOp, hop, resolve, invoke, hx, hy, he, go_sem, heg #[vx, vy] w]
  unfold Oper.wp
  rw [hrun]
  refine hc.mono ?_
  rintro e w' ⟨v, rfl, hr⟩
  exact hK v w' hr
end Go.Proofs.Ytnoiifnknkakoaa
