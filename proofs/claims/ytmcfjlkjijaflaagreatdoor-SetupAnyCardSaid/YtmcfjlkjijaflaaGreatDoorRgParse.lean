/-
  The document's Parse, of any words at any place.
-/
import Derived.Test.YtmcfjlkjijaflaaGreatDoorRgParseT
import Derived.Test.YtmcfjlkjijaflaaGreatDoorRgParseF
namespace Go.Proofs.YtmcfjlkjijaflaaGreatDoor
open Go.RowKit

set_option maxRecDepth 100000 in
set_option maxHeartbeats 1600000 in
theorem rparse_out (ao : Option Addr) (cap : Nat) (L : List Wd) (at_ : Int) (w : World) (h : at_ < 0 ∨ (L.length : Int) < at_) :
    Calls Tryz.prog 46 #[.slice ao L.length cap, .int .i64 at_] w (ParseP (parseR L at_) w) := by
  rw [parse_out h]
  obtain ⟨n, hn⟩ : ∃ n, L.length = n := ⟨_, rfl⟩
  rw [hn] at h ⊢
  have HST := Lib.hid (start_facts w false)
  obtain ⟨R, hR⟩ : ∃ R : Prg × Int × Int, ((false, []), 0, 5) = R := ⟨_, rfl⟩
  rw [hR]
  have HE := Lib.hid hR.symm
  clear hR hn
  rcases h with h | h
  · go_enter Tryz.func46, Tryz.ntmps46
    go_wp2
    refine bodyPost_ret (prg_result2 rfl rfl rfl rfl HST.out.1) rfl ?_
    exact parse_bad HE.out HST.out.2.2.1
  · have h2 : ¬ at_ < 0 := by omega
    go_enter Tryz.func46, Tryz.ntmps46
    go_wp2
    refine bodyPost_ret (prg_result2 rfl rfl rfl rfl HST.out.1) rfl ?_
    exact parse_bad HE.out HST.out.2.2.1
set_option maxRecDepth 100000 in
set_option maxHeartbeats 1600000 in
theorem rparse_no (ao : Option Addr) (b off cap : Nat) (L : List Wd) (a : Nat) (w : World) (h : WArg w ao b off L) (hm : L.length ≤ 100000) (ha : a ≤ L.length) (h1 : isR L a 1 progB = false) :
    Calls Tryz.prog 46 #[.slice ao L.length cap, .int .i64 a] w (ParseP (parseR L a) w) := by
  rw [parse_prog ha h1]
  have HA := Lib.hid h
  have his1 := fun W (hW : WArg W ao b off L) => is_any ao b off cap L a 1 ⟨#[112, 114, 111, 103]⟩ W hW hm
  obtain ⟨n, hn⟩ : ∃ n, L.length = n := ⟨_, rfl⟩
  simp only [h1, hn] at his1
  have HI1 := Lib.hid his1
  rw [hn] at ha hm ⊢
  have HST := Lib.hid (start_facts w false)
  obtain ⟨R, hR⟩ : ∃ R : Prg × Int × Int, ((false, []), (a : Int), 5) = R := ⟨_, rfl⟩
  rw [hR]
  have HE := Lib.hid hR.symm
  have hg1 : ¬ (a : Int) < 0 := by omega
  have hg2 : ¬ (n : Int) < a := by omega
  clear hR hn his1 h h1
  go_enter Tryz.func46, Tryz.ntmps46
  go_wp2_with fail
  with_reducible refine (HI1.out _ (HA.out.below HST.out.2.2.1)).mono ?_
  rintro e w1 ⟨rfl, rfl⟩
  go_wp2
  refine bodyPost_ret (prg_result2 rfl rfl rfl rfl HST.out.1) rfl ?_
  exact parse_bad HE.out HST.out.2.2.1
/-- The document's Parse. -/
theorem rparse_any (ao : Option Addr) (b off cap : Nat) (L : List Wd) (at_ : Int) (w : World) (h : WArg w ao b off L) (hm : L.length ≤ 100000) :
    Calls Tryz.prog 46 #[.slice ao L.length cap, .int .i64 at_] w (ParseP (parseR L at_) w) := by
  by_cases hout : at_ < 0 ∨ (L.length : Int) < at_
  · exact rparse_out ao cap L at_ w hout
  · obtain ⟨a, rfl⟩ : ∃ a : Nat, at_ = a := ⟨at_.toNat, by omega⟩
    have ha : a ≤ L.length := by omega
    cases h1 : isR L a 1 progB with
    | false => exact rparse_no ao b off cap L a w h hm ha h1
    | true =>
      cases h2 : isR L (a + 1) 1 foreverB with
      | true => exact rparse_t ao b off cap L a w h hm ha h1 h2
      | false => exact rparse_f ao b off cap L a w h hm ha h1 h2
end Go.Proofs.YtmcfjlkjijaflaaGreatDoor
