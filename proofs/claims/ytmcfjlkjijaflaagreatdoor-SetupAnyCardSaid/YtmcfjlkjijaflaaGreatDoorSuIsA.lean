/-
  The program's contracts, together, over its library's table: what SetupAny asks.
-/
import Derived.Test.YtmcfjlkjijaflaaGreatDoorSuAny
import Derived.Test.YtmcfjlkjijaflaaGreatDoorGAV
namespace Go.Proofs.YtmcfjlkjijaflaaGreatDoor
open Go.RowKit

def saSaid : SaSaid where
  Good := TabOk
  keep := fun h hb => h.below hb
  parse := fun ao b off cap L at_ w h hm _ hL _ => psparse_any ao b off cap L at_ w h hm hL
  may := fun s ag bg og cg al bl ol cl ap bp op cp w h _ _ => psmay_any s ag bg og cg al bl ol cl ap bp op cp w h
  awake := awake12
end Go.Proofs.YtmcfjlkjijaflaaGreatDoor
