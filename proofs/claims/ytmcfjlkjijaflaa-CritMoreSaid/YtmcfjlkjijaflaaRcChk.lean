/-
  The document's Check, of any program.
-/
import Derived.Test.YtmcfjlkjijaflaaRcCheck
namespace Go.Proofs.Ytmcfjlkjijaflaa
open Go.RowKit

set_option maxRecDepth 100000 in
set_option maxHeartbeats 1600000 in
theorem rcheck_not (f : Bool) (ao : Option Addr) (b off cap : Nat) (L : List Opn) (ao2 : Option Addr) (m cap2 : Nat) (progs : Int) (w : World) (h : OArg w ao b off L) (hs : ∀ x ∈ L, small x.1) (hl : L.length ≤ 100000) (hq : mayR (f, L) = false) :
    Calls Try.prog 8 #[prgV f ao L.length cap, .slice ao2 m cap2, .int .i64 progs] w (CkP (0, 1) w) := by
  have hb0 : Below w.heap.size w (w.alloc (.cells #[.bool f, .slice ao L.length cap] 24)) := (Below.refl _ w).alloc (Nat.le_refl _) _
  have hmay := rmay_any f ao b off cap L _ (h.below hb0) hl hs
  rw [hq] at hmay
  obtain ⟨n, hn⟩ : ∃ n, L.length = n := ⟨_, rfl⟩
  rw [hn] at hmay ⊢
  have HMAY := Lib.hid hmay
  clear h hs hq hb0 hmay hn hl
  go_enter Try.func8, Try.ntmps8
  go_wp2_with fail
  refine HMAY.out.mono ?_
  rintro e w1 ⟨rfl, hb1⟩
  have HB := Lib.hid (box_kept hb1).2
  clear hb1
  go_wp2
  go_ret2
  exact ⟨rfl, HB.out⟩
/-- Check of any program, any locks. -/
theorem rcheck_any (f : Bool) (ao : Option Addr) (b off cap : Nat) (L : List Opn) (ao2 : Option Addr) (b2 off2 cap2 : Nat) (locks : List Lk) (progs : Int) (w : World) (h : OArg w ao b off L) (hl : LArg w ao2 b2 off2 locks) (hs : ∀ x ∈ L, small x.1) (hm : L.length ≤ 100000) (hm2 : locks.length ≤ 100000) :
    Calls Try.prog 8 #[prgV f ao L.length cap, .slice ao2 locks.length cap2, .int .i64 progs] w (CkP (checkR (f, L) locks progs) w) := by
  unfold checkR
  cases hq : mayR (f, L) with
  | true => exact rcheck_may f ao b off cap L ao2 b2 off2 cap2 locks progs w h hl hs hm2 hq
  | false => exact rcheck_not f ao b off cap L ao2 locks.length cap2 progs w h hs hm hq
end Go.Proofs.Ytmcfjlkjijaflaa
