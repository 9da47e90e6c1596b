/-
  CritMore, whole, given what is said of the program.
-/
import Derived.Test.YtmcfjlkjijaflaaCrMore
namespace Go.Proofs.Ytmcfjlkjijaflaa
open Go.RowKit

set_option maxRecDepth 100000 in
set_option maxHeartbeats 3200000 in
theorem critmore_else (S : CrSaid) (f : Bool) (ao : Option Addr) (b off cap : Nat) (L : List Opn) (ao2 : Option Addr) (m cap2 : Nat) (more : Int) (w : World) (h : OArg w ao b off L) (hs : ∀ x ∈ L, small x.1)
    (hc : smallR L = false ∨ (smallR L = true ∧ ¬ m ≤ 12) ∨ (smallR L = true ∧ m ≤ 12 ∧ mayR (f, L) = false)) (hg : S.Good w) :
    Calls Try.prog 4 #[prgV f ao L.length cap, .slice ao2 m cap2, .int .u8 more] w fun e w' => e = .returned (.bool true) ∧ Below w.heap.size w w' := by
  have HG := Lib.hid hg
  have HAW := Lib.hid (fun V (hV : Below w.heap.size w V) => S.awake V (S.keep HG.out hV))
  have hsm := fun V (hV : Below w.heap.size w V) => small_any f ao b off cap L V (h.below hV)
  obtain ⟨n, hn⟩ : ∃ n, L.length = n := ⟨_, rfl⟩
  have HI0 := Lib.hid (show CmI w (w.alloc (.cells #[.bool f, .slice ao n cap] 24)) #[.bool f, .slice ao n cap] from ⟨heap_alloc_new w _, (Below.refl _ w).alloc (Nat.le_refl _) _⟩)
  rcases hc with hq | ⟨hq, hm⟩ | ⟨hq, hm, hmy⟩
  · rw [hq] at hsm
    simp only [hn] at hsm
    rw [hn]
    have HSM := Lib.hid hsm
    clear h hs hg hq hsm hn
    go_enter Try.func4, Try.ntmps4
    go_wp2_with fail
    with_reducible refine (HAW.out _ HI0.out.bel).mono ?_
    rintro e w1 ⟨rfl, hb⟩
    have HI1 := Lib.hid (HI0.out.below hb)
    obtain ⟨c0, c1⟩ := two_cells HI1.out.box
    clear hb
    go_wp2_with fail
    with_reducible refine (HSM.out _ HI1.out.bel).mono ?_
    rintro e w2 ⟨rfl, hb⟩
    have HI2 := Lib.hid (HI1.out.below hb)
    clear c0 c1 hb
    go_wp2
    go_ret
    exact ⟨rfl, HI2.out.bel⟩
  · rw [hq] at hsm
    simp only [hn] at hsm
    rw [hn]
    have HSM := Lib.hid hsm
    have g12 : (12 : Int) < m := by omega
    clear h hs hg hq hsm hn
    go_enter Try.func4, Try.ntmps4
    go_wp2_with fail
    with_reducible refine (HAW.out _ HI0.out.bel).mono ?_
    rintro e w1 ⟨rfl, hb⟩
    have HI1 := Lib.hid (HI0.out.below hb)
    obtain ⟨c0, c1⟩ := two_cells HI1.out.box
    clear hb
    go_wp2_with fail
    with_reducible refine (HSM.out _ HI1.out.bel).mono ?_
    rintro e w2 ⟨rfl, hb⟩
    have HI2 := Lib.hid (HI1.out.below hb)
    clear c0 c1 hb
    go_wp2
    go_ret
    exact ⟨rfl, HI2.out.bel⟩
  · have h20 := small_len hq
    rw [hq] at hsm
    have hmay := fun V (hV : Below w.heap.size w V) => rmay_any f ao b off cap L V (h.below hV) (by omega) hs
    rw [hmy] at hmay
    simp only [hn] at hsm hmay
    rw [hn]
    have HSM := Lib.hid hsm
    have HMY := Lib.hid hmay
    have g12 : ¬ (12 : Int) < m := by omega
    clear h hs hg hq hmy h20 hsm hmay hn
    go_enter Try.func4, Try.ntmps4
    go_wp2_with fail
    with_reducible refine (HAW.out _ HI0.out.bel).mono ?_
    rintro e w1 ⟨rfl, hb⟩
    have HI1 := Lib.hid (HI0.out.below hb)
    obtain ⟨c0, c1⟩ := two_cells HI1.out.box
    clear hb
    go_wp2_with fail
    with_reducible refine (HSM.out _ HI1.out.bel).mono ?_
    rintro e w2 ⟨rfl, hb⟩
    have HI2 := Lib.hid (HI1.out.below hb)
    clear c0 c1
    obtain ⟨c0, c1⟩ := two_cells HI2.out.box
    clear hb
    go_wp2_with fail
    with_reducible refine (HMY.out _ HI2.out.bel).mono ?_
    rintro e w3 ⟨rfl, hb⟩
    have HI3 := Lib.hid (HI2.out.below hb)
    clear c0 c1 hb
    go_wp2
    go_ret
    exact ⟨rfl, HI3.out.bel⟩
/-- CritMore's walk. -/
theorem critmore_walk (S : CrSaid) (f : Bool) (ao : Option Addr) (b off cap : Nat) (L : List Opn) (ao2 : Option Addr) (b2 off2 cap2 : Nat) (locks : List Lk) (more : Int) (w : World) (h : OArg w ao b off L) (hl : LArg w ao2 b2 off2 locks) (hs : ∀ x ∈ L, small x.1)
    (hm0 : 0 ≤ more) (hm1 : more < 256) (hg : S.Good w) :
    Calls Try.prog 4 #[prgV f ao L.length cap, .slice ao2 locks.length cap2, .int .u8 more] w fun e w' => e = .returned (.bool true) ∧ Below w.heap.size w w' := by
  cases hq : smallR L with
  | false => exact critmore_else S f ao b off cap L ao2 locks.length cap2 more w h hs (.inl hq) hg
  | true =>
    by_cases hm : locks.length ≤ 12
    · cases hmy : mayR (f, L) with
      | false => exact critmore_else S f ao b off cap L ao2 locks.length cap2 more w h hs (.inr (.inr ⟨hq, hm, hmy⟩)) hg
      | true => exact critmore_main S f ao b off cap L ao2 b2 off2 cap2 locks more w h hl hs hm0 hm1 hq hm hmy hg
    · exact critmore_else S f ao b off cap L ao2 locks.length cap2 more w h hs (.inr (.inl ⟨hq, hm⟩)) hg
end Go.Proofs.Ytmcfjlkjijaflaa
