/-
  The program's contracts, together, over its library's table: what SetupSames asks.
-/
import Derived.Test.YtmcfjlkjijaflaaGreatDoorGAS
import Derived.Test.YtmcfjlkjijaflaaGreatDoorSpSame
import Derived.Test.YtmcfjlkjijaflaaGreatDoorGAV
namespace Go.Proofs.YtmcfjlkjijaflaaGreatDoor
open Go.RowKit

def ssSaid : SsSaid where
  Good := TabOk
  keep := fun h hb => h.below hb
  same := fun s ag bg og cg al bl ol cl ap bp op cp s2 ag2 bg2 og2 cg2 al2 bl2 ol2 cl2 ap2 bp2 op2 cp2 w h h2 hz hz2 _ _ _ => pssame_any s ag bg og cg al bl ol cl ap bp op cp s2 ag2 bg2 og2 cg2 al2 bl2 ol2 cl2 ap2 bp2 op2 cp2 w h h2 hz hz2
  awake := awake12
end Go.Proofs.YtmcfjlkjijaflaaGreatDoor
