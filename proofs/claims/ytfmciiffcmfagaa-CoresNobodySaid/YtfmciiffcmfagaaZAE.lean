/-
  Layer 16's awake, given what is said of the program's queues.
  RunqNobody: what a nil queue answers, and the walk. (Made by gen_rqnobody.py.)
-/
import Derived.Test.YtfmciiffcmfagaaZAC
import Derived.Test.YtfmciiffcmfagaaZAB
import Derived.TacticsIn
import Derived.OwnWalkIn
import Derived.Test.YtfmciiffcmfagaaZAl
set_option maxRecDepth 100000
set_option maxHeartbeats 25600000
namespace Go.Proofs.Ytfmciiffcmfagaa
open Go.RowKit
end Go.Proofs.Ytfmciiffcmfagaa
namespace Go.Proofs.Ytfmciiffcmfagaa
open Go.RowKit Go.Maps Go.Shelf
attribute [local go_sem] Oper.semAt_some
structure NbK (w W:World):Prop where
 box:W.heap[w.heap.size]?=some (.cells #[.bool false] 4 (0,0))
 t:Turned [] w W
theorem NbK.later {w W W':World} (h:NbK w W) (t:Turned [] W W'):NbK w W':=⟨t.same h.box (by simp),h.t.trans t (Newer.refl _ _)⟩
end Go.Proofs.Ytfmciiffcmfagaa
