/-
  What the laws lean on holds of the program.
-/
import Derived.Test.YtmcfjlkjijaflaaCrAwake
import Derived.Test.YtmcfjlkjijaflaaCrSmall
namespace Go.Proofs.Ytmcfjlkjijaflaa
open Go.RowKit

def crSaid : CrSaid where
  Good _ := True
  keep _ _ := trivial
  check f ao b off cap L ao2 b2 off2 cap2 locks progs w h hl _ _ hm _ _ := pcheck_any f ao b off cap L ao2 b2 off2 cap2 locks progs w h hl (by omega)
  awake w _ := awake11 w
end Go.Proofs.Ytmcfjlkjijaflaa
