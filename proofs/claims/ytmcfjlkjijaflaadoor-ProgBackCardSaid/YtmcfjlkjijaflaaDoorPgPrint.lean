/-
  The program's Print.
-/
import Derived.Test.YtmcfjlkjijaflaaDoorPgWords
import Derived.Test.YtmcfjlkjijaflaaDoorGK
namespace Go.Proofs.YtmcfjlkjijaflaaDoor
open Go.RowKit Go.Maps Go.Shelf

set_option maxRecDepth 100000 in
set_option maxHeartbeats 1600000 in
theorem pprint_any (f : Bool) (ao : Option Addr) (b off cap : Nat) (L : List Opn) (w : World) (h : OArg w ao b off L) (hT : TabOk w) :
    Calls Tryd.prog 9 #[prgV f ao L.length cap] w (PrintP (printR (f, L)) w) := by
  have hb0 : Below w.heap.size w (w.alloc (.cells #[.bool f, .slice ao L.length cap] 24)) := (Below.refl _ w).alloc (Nat.le_refl _) _
  have hw := pwords_any f ao b off cap L _ (h.below hb0)
  unfold WordsQ at hw
  have HT := Lib.hid hT
  cases hq : mayR (f, L) with
  | false =>
    have e : printR (f, L) = ([], 1) := by unfold printR; rw [hq]; rfl
    rw [e]
    rw [hq] at hw
    simp only [Bool.false_eq_true, if_false] at hw
    obtain ⟨n, hn⟩ : ∃ n, L.length = n := ⟨_, rfl⟩
    rw [hn] at hw ⊢
    have HW := Lib.hid hw
    clear hw hq e hn h hb0 hT
    go_enter Tryd.func9, Tryd.ntmps9
    go_wp2_with fail
    with_reducible refine HW.out.mono ?_
    rintro e w1 ⟨v, rfl, -, hb⟩
    have HB := Lib.hid (box_kept hb).2
    clear hb
    go_wp2
    go_ret2
    exact ⟨rfl, HB.out⟩
  | true =>
    have e : printR (f, L) = joinA (wordsR (f, L)) := by unfold printR; rw [hq]; rfl
    rw [e]
    have h60 := words_len hq
    have hsh := words_short (f, L)
    rw [hq] at hw
    simp only [if_pos] at hw
    obtain ⟨n, hn⟩ : ∃ n, L.length = n := ⟨_, rfl⟩
    rw [hn] at hw ⊢
    obtain ⟨W, hW⟩ : ∃ W, wordsR (f, L) = W := ⟨_, rfl⟩
    rw [hW] at h60 hsh hw ⊢
    have HW := Lib.hid hw
    have HJ := Lib.hid (fun ao b cap X hX hT => join_any ao b 0 cap W X hX h60 hsh hT)
    clear hw hq e hn h hW hsh h60 hb0 hT
    go_enter Tryd.func9, Tryd.ntmps9
    go_wp2_with fail
    with_reducible refine HW.out.mono ?_
    rintro e w2 ⟨v, rfl, hrow, hb2⟩
    have HB2 := Lib.hid (box_kept hb2).2
    obtain ⟨ao2, b2, cap2, rfl, hwa⟩ := WArg.of_row hrow
    have HWA := Lib.hid hwa
    clear hb2 hrow hwa
    go_wp2_with fail
    with_reducible refine (HJ.out _ _ _ _ HWA.out (HT.out.below HB2.out)).mono ?_
    rintro e w3 ⟨rfl, hb3⟩
    have HB3 := Lib.hid (HB2.out.trans (hb3.mono HB2.out.size))
    clear hb3
    go_wp2
    go_ret2
    exact ⟨rfl, HB3.out⟩
end Go.Proofs.YtmcfjlkjijaflaaDoor
