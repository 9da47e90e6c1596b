/-
  CritChecks, given what is said of the program.
-/
import Derived.Test.YtmcfjlkjijaflaaCrSmall
import Derived.Test.YtmcfjlkjijaflaaRcChk
namespace Go.Proofs.Ytmcfjlkjijaflaa
open Go.RowKit

set_option maxRecDepth 100000 in
set_option maxHeartbeats 3200000 in
theorem critchecks_walk (S : CrSaid) (f : Bool) (ao : Option Addr) (b off cap : Nat) (L : List Opn) (ao2 : Option Addr) (b2 off2 cap2 : Nat) (locks : List Lk) (progs : Int) (w : World) (h : OArg w ao b off L) (hl : LArg w ao2 b2 off2 locks) (hs : ∀ x ∈ L, small x.1) (hp : small progs) (hg : S.Good w) :
    Calls Try.prog 3 #[prgV f ao L.length cap, .slice ao2 locks.length cap2, .int .i64 progs] w fun e w' => e = .returned (.bool true) ∧ Below w.heap.size w w' := by
  have HG := Lib.hid hg
  have HAW := Lib.hid (fun V (hV : Below w.heap.size w V) => S.awake V (S.keep HG.out hV))
  have hb0 : Below w.heap.size w (w.alloc (.cells #[.bool f, .slice ao L.length cap] 24)) := (Below.refl _ w).alloc (Nat.le_refl _) _
  have hx0 := heap_alloc_new w (.cells #[.bool f, .slice ao L.length cap] 24)
  have hsm := fun V (hV : Below w.heap.size w V) => small_any f ao b off cap L V (h.below hV)
  obtain ⟨n, hn⟩ : ∃ n, L.length = n := ⟨_, rfl⟩
  obtain ⟨m, hm⟩ : ∃ m, locks.length = m := ⟨_, rfl⟩
  cases hq : smallR L with
  | true =>
    have h20 := small_len hq
    rw [hq] at hsm
    by_cases hm12 : m ≤ 12
    · have hck := fun V (hV : Below w.heap.size w V) => S.check f ao b off cap L ao2 b2 off2 cap2 locks progs V (h.below hV) (hl.below hV) hs hq (by omega) hp (S.keep HG.out hV)
      have hrc := fun V (hV : Below w.heap.size w V) => rcheck_any f ao b off cap L ao2 b2 off2 cap2 locks progs V (h.below hV) (hl.below hV) hs (by omega) (by omega)
      unfold CkP at hck hrc
      obtain ⟨⟨i, e0⟩, hA⟩ : ∃ A, checkR (f, L) locks progs = A := ⟨_, rfl⟩
      simp only [hA, hn, hm] at hck hrc hsm
      rw [hn] at hb0 hx0
      rw [hn, hm]
      have g1 : ¬ (12 : Int) < m := by omega
      have HCK := Lib.hid hck
      have HRC := Lib.hid hrc
      have HSM := Lib.hid hsm
      have HB0 := Lib.hid hb0
      have HX0 := Lib.hid hx0
      have ei : ((i : Int) == i) = true := by simp
      have ee : (e0 == e0) = true := by simp
      clear h hl hs hp hg hb0 hx0 hsm hn hm hq h20 hck hrc hA
      go_enter Try.func3, Try.ntmps3
      go_wp2_with fail
      with_reducible refine (HAW.out _ HB0.out).mono ?_
      rintro e w1 ⟨rfl, hb1⟩
      have HB1 := Lib.hid (HB0.out.trans (hb1.mono HB0.out.size))
      have hx1 := (hb1.block _ (lt_of_block HX0.out)).trans HX0.out
      have HX1 := Lib.hid hx1
      obtain ⟨c0, c1⟩ := two_cells hx1
      clear hb1 hx1
      go_wp2_with fail
      with_reducible refine (HSM.out _ HB1.out).mono ?_
      rintro e w2 ⟨rfl, hb2⟩
      have HB2 := Lib.hid (HB1.out.trans (hb2.mono HB1.out.size))
      have hx2 := (hb2.block _ (lt_of_block HX1.out)).trans HX1.out
      have HX2 := Lib.hid hx2
      clear c0 c1
      obtain ⟨c0, c1⟩ := two_cells hx2
      clear hb2 hx2
      go_wp2_with fail
      with_reducible refine (HCK.out _ HB2.out).mono ?_
      rintro e w3 ⟨rfl, hb3⟩
      have HB3 := Lib.hid (HB2.out.trans (hb3.mono HB2.out.size))
      have hx3 := (hb3.block _ (lt_of_block HX2.out)).trans HX2.out
      have HX3 := Lib.hid hx3
      clear c0 c1
      obtain ⟨c0, c1⟩ := two_cells hx3
      clear hb3 hx3
      go_wp2_with fail
      with_reducible refine (HRC.out _ HB3.out).mono ?_
      rintro e w4 ⟨rfl, hb4⟩
      have HB4 := Lib.hid (HB3.out.trans (hb4.mono HB3.out.size))
      clear hb4
      go_wp2
      go_ret
      exact ⟨rfl, HB4.out⟩
    · simp only [hn] at hsm
      rw [hn] at hb0 hx0
      rw [hn, hm]
      have g1 : (12 : Int) < m := by omega
      have HSM := Lib.hid hsm
      have HB0 := Lib.hid hb0
      have HX0 := Lib.hid hx0
      clear h hl hs hp hg hb0 hx0 hsm hn hm hq h20
      go_enter Try.func3, Try.ntmps3
      go_wp2_with fail
      with_reducible refine (HAW.out _ HB0.out).mono ?_
      rintro e w1 ⟨rfl, hb1⟩
      have HB1 := Lib.hid (HB0.out.trans (hb1.mono HB0.out.size))
      have hx1 := (hb1.block _ (lt_of_block HX0.out)).trans HX0.out
      obtain ⟨c0, c1⟩ := two_cells hx1
      clear hb1 hx1
      go_wp2_with fail
      with_reducible refine (HSM.out _ HB1.out).mono ?_
      rintro e w2 ⟨rfl, hb2⟩
      have HB2 := Lib.hid (HB1.out.trans (hb2.mono HB1.out.size))
      clear hb2
      go_wp2
      go_ret
      exact ⟨rfl, HB2.out⟩
  | false =>
    rw [hq] at hsm
    simp only [hn] at hsm
    rw [hn] at hb0 hx0
    rw [hn, hm]
    have HSM := Lib.hid hsm
    have HB0 := Lib.hid hb0
    have HX0 := Lib.hid hx0
    clear h hl hs hp hg hb0 hx0 hsm hn hm hq
    go_enter Try.func3, Try.ntmps3
    go_wp2_with fail
    with_reducible refine (HAW.out _ HB0.out).mono ?_
    rintro e w1 ⟨rfl, hb1⟩
    have HB1 := Lib.hid (HB0.out.trans (hb1.mono HB0.out.size))
    have hx1 := (hb1.block _ (lt_of_block HX0.out)).trans HX0.out
    obtain ⟨c0, c1⟩ := two_cells hx1
    clear hb1 hx1
    go_wp2_with fail
    with_reducible refine (HSM.out _ HB1.out).mono ?_
    rintro e w2 ⟨rfl, hb2⟩
    have HB2 := Lib.hid (HB1.out.trans (hb2.mono HB1.out.size))
    clear hb2
    go_wp2
    go_ret
    exact ⟨rfl, HB2.out⟩
end Go.Proofs.Ytmcfjlkjijaflaa
