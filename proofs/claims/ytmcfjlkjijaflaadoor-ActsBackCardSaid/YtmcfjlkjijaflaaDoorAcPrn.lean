/-
  Print of acts: the program's and the document's.
-/
import Derived.Test.YtmcfjlkjijaflaaDoorRaWds
import Derived.Test.YtmcfjlkjijaflaaDoorGK
import Derived.Test.YtmcfjlkjijaflaaDoorGO
import Derived.Test.YtmcfjlkjijaflaaDoorRgPrint
namespace Go.Proofs.YtmcfjlkjijaflaaDoor
open Go.RowKit

def printAc (L : List Ac) : List By × Int := if (wordsAc L).2 = 0 then joinA (wordsAc L).1 else ([], (wordsAc L).2)
theorem acname_short (k : Int) : (acName k).length ≤ 40 := by
  by_cases h : acName k = []
  · rw [h]; decide
  · rcases ac_kinds h with h | h | h | h | h | h | h | h <;> subst h <;> decide
theorem acw_short (a : Ac) : ∀ x ∈ acW a, x.2.1.length ≤ 40 := by
  intro x hx
  unfold acW acTail at hx
  simp only [List.mem_cons, List.mem_append, List.mem_map, List.not_mem_nil, or_false] at hx
  rcases hx with rfl | ⟨n, _, rfl⟩ | rfl
  · exact acname_short a.1
  · simp [numW]
  · simp
theorem words_short13 (L : List Ac) : ∀ x ∈ (wordsAc L).1, x.2.1.length ≤ 40 := by
  intro x hx
  unfold wordsAc at hx
  split at hx
  · split at hx
    · cases hx
    · obtain ⟨a, _, ha⟩ := List.mem_flatMap.1 hx
      exact acw_short a x ha
  · cases hx
theorem words_len13 (L : List Ac) : (wordsAc L).1.length ≤ 24000 := by
  unfold wordsAc
  split
  · split
    · simp
    · have := acts_flat L
      simp only
      omega
  · simp
set_option maxRecDepth 100000 in
set_option maxHeartbeats 1600000 in
theorem aprint_any (ao : Option Addr) (b off cap : Nat) (L : List Ac) (w : World) (h : AArg w ao b off L) (hm : L.length ≤ 100000) (hT : TabOk w) :
    Calls Tryd.prog 26 #[.slice ao L.length cap] w (PrintP (printAc L) w) := by
  have hw := awords_any ao b off cap L w h hm
  unfold WordsAP at hw
  have hsh := words_short13 L
  have hln := words_len13 L
  have HT := Lib.hid hT
  unfold printAc
  obtain ⟨⟨W, e⟩, hW⟩ : ∃ x, wordsAc L = x := ⟨_, rfl⟩
  rw [hW] at hw hsh hln ⊢
  simp only at hw hsh hln ⊢
  obtain ⟨n, hn⟩ : ∃ n, L.length = n := ⟨_, rfl⟩
  rw [hn] at hw ⊢
  have HW := Lib.hid hw
  have HJ := Lib.hid (fun ao b cap X hX hT => join_long ao b 0 cap W X hX (by omega) hsh hT)
  clear hw hn h hm hT hW hsh hln
  by_cases he : e = 0
  · subst he
    rw [if_pos rfl]
    go_enter Tryd.func26, Tryd.ntmps26
    go_wp2_with fail
    with_reducible refine HW.out.mono ?_
    rintro e w2 ⟨v, rfl, hrow, hb2⟩
    have HB2 := Lib.hid hb2
    obtain ⟨ao2, b2, cap2, rfl, hwa⟩ := WArg.of_row hrow
    have HWA := Lib.hid hwa
    clear hb2 hrow hwa
    go_wp2_with fail
    with_reducible refine (HJ.out _ _ _ _ HWA.out (HT.out.below HB2.out)).mono ?_
    rintro e w3 ⟨rfl, hb3⟩
    have HB3 := Lib.hid (HB2.out.trans (hb3.mono HB2.out.size))
    clear hb3
    go_wp2
    go_ret2
    exact ⟨rfl, HB3.out⟩
  · rw [if_neg he]
    have he1 : (e != 0) = true := by simpa using he
    clear he
    go_enter Tryd.func26, Tryd.ntmps26
    go_wp2_with fail
    with_reducible refine HW.out.mono ?_
    rintro e w2 ⟨v, rfl, -, hb2⟩
    have HB2 := Lib.hid hb2
    clear hb2
    go_wp2
    go_ret2
    exact ⟨rfl, HB2.out⟩
set_option maxRecDepth 100000 in
set_option maxHeartbeats 1600000 in
theorem raprint_any (ao : Option Addr) (b off cap : Nat) (L : List Ac) (w : World) (h : AArg w ao b off L) (hm : L.length ≤ 5000) :
    Calls Tryd.prog 27 #[.slice ao L.length cap] w (PrintP (printAc L) w) := by
  have hw := rawords_any ao b off cap L w h hm
  unfold WordsAP at hw
  have hsh := words_short13 L
  have hln := words_len13 L
  unfold printAc
  obtain ⟨⟨W, e⟩, hW⟩ : ∃ x, wordsAc L = x := ⟨_, rfl⟩
  rw [hW] at hw hsh hln ⊢
  simp only at hw hsh hln ⊢
  obtain ⟨n, hn⟩ : ∃ n, L.length = n := ⟨_, rfl⟩
  rw [hn] at hw ⊢
  have HW := Lib.hid hw
  have HJ := Lib.hid (fun ao b cap X hX => rjoin_long ao b 0 cap W X hX hln hsh)
  clear hw hn h hm hW hsh hln
  by_cases he : e = 0
  · subst he
    rw [if_pos rfl]
    go_enter Tryd.func27, Tryd.ntmps27
    go_wp2_with fail
    with_reducible refine HW.out.mono ?_
    rintro e w2 ⟨v, rfl, hrow, hb2⟩
    have HB2 := Lib.hid hb2
    obtain ⟨ao2, b2, cap2, rfl, hwa⟩ := WArg.of_row hrow
    have HWA := Lib.hid hwa
    clear hb2 hrow hwa
    go_wp2_with fail
    with_reducible refine (HJ.out _ _ _ _ HWA.out).mono ?_
    rintro e w3 ⟨rfl, hb3⟩
    have HB3 := Lib.hid (HB2.out.trans (hb3.mono HB2.out.size))
    clear hb3
    go_wp2
    go_ret2
    exact ⟨rfl, HB3.out⟩
  · rw [if_neg he]
    have he1 : (e != 0) = true := by simpa using he
    clear he
    go_enter Tryd.func27, Tryd.ntmps27
    go_wp2_with fail
    with_reducible refine HW.out.mono ?_
    rintro e w2 ⟨v, rfl, -, hb2⟩
    have HB2 := Lib.hid hb2
    clear hb2
    go_wp2
    go_ret2
    exact ⟨rfl, HB2.out⟩
end Go.Proofs.YtmcfjlkjijaflaaDoor
