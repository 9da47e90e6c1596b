/-
  The document's Parse of setups, from any place.
-/
import Derived.Test.YtmcfjlkjijaflaaGreatDoorRuParse
namespace Go.Proofs.YtmcfjlkjijaflaaGreatDoor
open Go.RowKit

set_option maxRecDepth 100000 in
set_option maxHeartbeats 3200000 in
theorem rsparse_out (ao : Option Addr) (n cap : Nat) (R : Stp × Int × Int) (at_ : Int) (w : World) (h : at_ < 0 ∨ (n : Int) < at_) (hR : R = (noneS, 0, 5)) :
    Calls Tryz.prog 19 #[.slice ao n cap, .int .i64 at_] w (ParseSP R w) := by
  have HF := Lib.hid (And.intro (heap_alloc_new w (.cells zeroSt 26)) ((Below.refl _ w).alloc (Nat.le_refl _) (.cells zeroSt 26)))
  have HR := Lib.hid hR
  clear hR
  by_cases h0 : at_ < 0
  · clear h
    go_enter Tryz.func19, Tryz.ntmps19
    go_wp2
    refine bodyPost_ret (st_res rfl rfl rfl rfl HF.out.1) rfl ?_
    exact parse_badS HR.out HF.out.2
  · have h1 : (n : Int) < at_ := by omega
    clear h
    go_enter Tryz.func19, Tryz.ntmps19
    go_wp2
    refine bodyPost_ret (st_res rfl rfl rfl rfl HF.out.1) rfl ?_
    exact parse_badS HR.out HF.out.2
/-- The document's Parse of any words. -/
theorem rsparse_any (ao : Option Addr) (bw off cap : Nat) (L : List Wd) (at_ : Int) (w : World) (h : WArg w ao bw off L) (hm : L.length ≤ 100000) :
    Calls Tryz.prog 19 #[.slice ao L.length cap, .int .i64 at_] w (ParseSP (parseS L at_) w) := by
  by_cases ho : at_ < 0 ∨ (L.length : Int) < at_
  · refine rsparse_out ao L.length cap _ at_ w ho ?_
    unfold parseS
    rw [if_pos ho]
  · obtain ⟨a, rfl⟩ : ∃ a : Nat, at_ = a := ⟨at_.toNat, by omega⟩
    exact rsparse_in ao bw off cap L a w h hm (by omega)
end Go.Proofs.YtmcfjlkjijaflaaGreatDoor
