/-
  The document's Words, Print, of any program.
-/
import Derived.Test.YtmcfjlkjijaflaaDoorRgWordsT
import Derived.Test.YtmcfjlkjijaflaaDoorRgWordsF
import Derived.Test.YtmcfjlkjijaflaaDoorGO
import Derived.Test.YtmcfjlkjijaflaaDoorPgLen
namespace Go.Proofs.YtmcfjlkjijaflaaDoor
open Go.RowKit

theorem rwords_any (f : Bool) (ao : Option Addr) (b off cap : Nat) (L : List Opn) (w : World) (h : OArg w ao b off L) (hm : L.length ≤ 100000) (hs : ∀ x ∈ L, small x.1) :
    Calls Tryd.prog 18 #[prgV f ao L.length cap] w (WordsP (wordsR (f, L)) w) := by
  cases f with
  | true => exact rwords_t ao b off cap L w h hm hs
  | false => exact rwords_f ao b off cap L w h hm hs
set_option maxRecDepth 100000 in
set_option maxHeartbeats 3200000 in
theorem rprint_any (f : Bool) (ao : Option Addr) (b off cap : Nat) (L : List Opn) (w : World) (h : OArg w ao b off L) (hm : L.length ≤ 100000) (hs : ∀ x ∈ L, small x.1) :
    Calls Tryd.prog 10 #[prgV f ao L.length cap] w (PrintP (printR (f, L)) w) := by
  have HA := Lib.hid h
  have hmay := fun W (hW : OArg W ao b off L) => rmay_any f ao b off cap L W hW hm hs
  have hw := fun W (hW : OArg W ao b off L) => rwords_any f ao b off cap L W hW hm hs
  have HBX := Lib.hid (fun (v : Value) (s : Value) => ((Below.refl w.heap.size w).alloc (Nat.le_refl _) (.cells #[v, s] 24)))
  cases hq : mayR (f, L) with
  | false =>
    have e : printR (f, L) = ([], 1) := by unfold printR; rw [hq]; rfl
    rw [e]
    simp only [hq] at hmay
    obtain ⟨n, hn⟩ : ∃ n, L.length = n := ⟨_, rfl⟩
    simp only [hn] at hmay
    rw [hn]
    have HM := Lib.hid hmay
    clear hmay hw hq e hn h
    go_enter Tryd.func10, Tryd.ntmps10
    go_wp2_with fail
    with_reducible refine (HM.out _ (HA.out.below (HBX.out _ _))).mono ?_
    rintro e w1 ⟨rfl, hb⟩
    have HB := Lib.hid (box_kept hb).2
    clear hb
    go_wp2
    go_ret2
    exact ⟨rfl, HB.out⟩
  | true =>
    have e : printR (f, L) = joinA (wordsR (f, L)) := by unfold printR; rw [hq]; rfl
    rw [e]
    have h60 := words_len hq
    have hsh := words_short (f, L)
    simp only [hq] at hmay
    obtain ⟨n, hn⟩ : ∃ n, L.length = n := ⟨_, rfl⟩
    simp only [hn] at hmay hw
    rw [hn]
    have HM := Lib.hid hmay
    obtain ⟨W, hW⟩ : ∃ W, wordsR (f, L) = W := ⟨_, rfl⟩
    rw [hW] at h60 hsh ⊢
    simp only [hW] at hw
    have HW := Lib.hid hw
    have HJ := Lib.hid (fun ao b cap X hX => rjoin_any ao b 0 cap W X hX h60 hsh)
    clear hmay hw hq e hn h hW hsh h60
    go_enter Tryd.func10, Tryd.ntmps10
    go_wp2_with fail
    with_reducible refine (HM.out _ (HA.out.below (HBX.out _ _))).mono ?_
    rintro e w1 ⟨rfl, hb⟩
    obtain ⟨hx, hb2⟩ := box_kept hb
    have HB := Lib.hid hb2
    obtain ⟨c0, c1⟩ := two_cells hx
    clear hb hx hb2
    go_wp2_with fail
    with_reducible refine (HW.out _ (HA.out.below HB.out)).mono ?_
    rintro e w2 ⟨v, rfl, hrow, hb2⟩
    have HB2 := Lib.hid (HB.out.trans (hb2.mono HB.out.size))
    obtain ⟨ao2, b2, cap2, rfl, hwa⟩ := WArg.of_row hrow
    have HWA := Lib.hid hwa
    clear hb2 hrow hwa
    go_wp2_with fail
    with_reducible refine (HJ.out _ _ _ _ HWA.out).mono ?_
    rintro e w3 ⟨rfl, hb3⟩
    have HB3 := Lib.hid (HB2.out.trans (hb3.mono HB2.out.size))
    clear hb3
    go_wp2
    go_ret2
    exact ⟨rfl, HB3.out⟩
end Go.Proofs.YtmcfjlkjijaflaaDoor
