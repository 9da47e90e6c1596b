/-
  A partial function turned at one place. No program.
-/
namespace Go.Proofs.Ytnoiifnknkakoaa
def updF (f : Int → Option Int) (i : Int) (v : Option Int) : Int → Option Int := fun k => if k = i then v else f k
theorem updF_same (f : Int → Option Int) (i : Int) (v : Option Int) : updF f i v i = v := by simp [updF]
theorem updF_other {f : Int → Option Int} {i k : Int} {v : Option Int} (h : k ≠ i) : updF f i v k = f k := by simp [updF, h]
end Go.Proofs.Ytnoiifnknkakoaa
