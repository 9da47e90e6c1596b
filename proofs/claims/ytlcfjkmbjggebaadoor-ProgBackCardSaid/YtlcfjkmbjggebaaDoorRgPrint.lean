/-
  The document's Words, Print, of any program.
-/
import Derived.Test.YtlcfjkmbjggebaaDoorRgWordsT
import Derived.Test.YtlcfjkmbjggebaaDoorRgWordsF
import Derived.Test.YtlcfjkmbjggebaaDoorGO
namespace Go.Proofs.YtlcfjkmbjggebaaDoor
open Go.RowKit

theorem rwords_any (f : Bool) (ao : Option Addr) (b off cap : Nat) (L : List Opn) (w : World) (h : OArg w ao b off L) (hm : L.length ≤ 100000) (hs : ∀ x ∈ L, small x.1) :
    Calls Tryd.prog 16 #[prgV f ao L.length cap] w (WordsP (wordsR (f, L)) w) := by
  cases f with
  | true => exact rwords_t ao b off cap L w h hm hs
  | false => exact rwords_f ao b off cap L w h hm hs
/-- What Print answers. -/
def printR (p : Prg) : List By × Int := if mayR p then joinA (wordsR p) else ([], 1)
def PrintP (r : List By × Int) (w : World) (e : Ending) (w' : World) : Prop := e = .returned (.tuple #[.string ⟨r.1.toArray⟩, .int .i64 r.2]) ∧ Below w.heap.size w w'
theorem name_len (k : Int) : (nameR k).length ≤ 40 := by
  by_cases h : nameR k = []
  · rw [h]; decide
  · rcases name_kinds h with h | h | h | h | h | h | h | h | h | h | h <;> subst h <;> decide
theorem opW_len (o : Opn) : (opW o).length ≤ 4 := by
  unfold opW
  split <;> split <;> simp
theorem opW_short (o : Opn) : ∀ x ∈ opW o, x.2.1.length ≤ 40 := by
  intro x hx
  unfold opW at hx
  simp only [List.mem_cons, List.mem_append, List.not_mem_nil, or_false] at hx
  rcases hx with rfl | hx | hx | rfl
  · exact name_len _
  · split at hx
    · simp only [List.mem_cons, List.not_mem_nil, or_false] at hx; subst hx; exact Nat.zero_le _
    · simp at hx
  · split at hx
    · simp only [List.mem_cons, List.not_mem_nil, or_false] at hx; subst hx; exact Nat.zero_le _
    · simp at hx
  · decide
theorem opsW_len : ∀ L : List Opn, (L.flatMap opW).length ≤ L.length * 4
  | [] => Nat.le_refl _
  | o :: L => by
    have := opsW_len L
    have := opW_len o
    simp only [List.flatMap_cons, List.length_append, List.length_cons]
    omega
theorem words_len {p : Prg} (h : mayR p = true) : (wordsR p).length ≤ 60 := by
  obtain ⟨f, L⟩ := p
  simp only [mayR, Bool.and_eq_true, decide_eq_true_eq] at h
  have := opsW_len L
  rw [words_head]
  simp only [List.length_append, List.length_cons, List.length_nil]
  have : (headR f).length ≤ 3 := by cases f <;> decide
  omega
theorem words_short (p : Prg) : ∀ x ∈ wordsR p, x.2.1.length ≤ 40 := by
  obtain ⟨f, L⟩ := p
  intro x hx
  rw [words_head] at hx
  simp only [List.mem_append, List.mem_cons, List.not_mem_nil, or_false] at hx
  rcases hx with (hx | hx) | rfl
  · cases f <;> simp [headR] at hx
    · rcases hx with rfl | rfl <;> decide
    · rcases hx with rfl | rfl | rfl <;> decide
  · obtain ⟨o, _, ho⟩ := List.mem_flatMap.1 hx
    exact opW_short o x ho
  · decide
theorem may_le {f : Bool} {L : List Opn} (h : mayR (f, L) = true) : L.length ≤ 12 := by
  simp only [mayR, Bool.and_eq_true, decide_eq_true_eq] at h
  exact h.2.1
set_option maxRecDepth 100000 in
set_option maxHeartbeats 3200000 in
theorem rprint_any (f : Bool) (ao : Option Addr) (b off cap : Nat) (L : List Opn) (w : World) (h : OArg w ao b off L) (hm : L.length ≤ 100000) (hs : ∀ x ∈ L, small x.1) :
    Calls Tryd.prog 8 #[prgV f ao L.length cap] w (PrintP (printR (f, L)) w) := by
  have HA := Lib.hid h
  have hmay := fun W (hW : OArg W ao b off L) => rmay_any f ao b off cap L W hW hm hs
  have hw := fun W (hW : OArg W ao b off L) => rwords_any f ao b off cap L W hW hm hs
  have HBX := Lib.hid (fun (v : Value) (s : Value) => ((Below.refl w.heap.size w).alloc (Nat.le_refl _) (.cells #[v, s] 24)))
  cases hq : mayR (f, L) with
  | false =>
    have e : printR (f, L) = ([], 1) := by unfold printR; rw [hq]; rfl
    rw [e]
    simp only [hq] at hmay
    obtain ⟨n, hn⟩ : ∃ n, L.length = n := ⟨_, rfl⟩
    simp only [hn] at hmay
    rw [hn]
    have HM := Lib.hid hmay
    clear hmay hw hq e hn h
    go_enter Tryd.func8, Tryd.ntmps8
    go_wp2_with fail
    with_reducible refine (HM.out _ (HA.out.below (HBX.out _ _))).mono ?_
    rintro e w1 ⟨rfl, hb⟩
    have HB := Lib.hid (box_kept hb).2
    clear hb
    go_wp2
    go_ret2
    exact ⟨rfl, HB.out⟩
  | true =>
    have e : printR (f, L) = joinA (wordsR (f, L)) := by unfold printR; rw [hq]; rfl
    rw [e]
    have h60 := words_len hq
    have hsh := words_short (f, L)
    simp only [hq] at hmay
    obtain ⟨n, hn⟩ : ∃ n, L.length = n := ⟨_, rfl⟩
    simp only [hn] at hmay hw
    rw [hn]
    have HM := Lib.hid hmay
    obtain ⟨W, hW⟩ : ∃ W, wordsR (f, L) = W := ⟨_, rfl⟩
    rw [hW] at h60 hsh ⊢
    simp only [hW] at hw
    have HW := Lib.hid hw
    have HJ := Lib.hid (fun ao b cap X hX => rjoin_any ao b 0 cap W X hX h60 hsh)
    clear hmay hw hq e hn h hW hsh h60
    go_enter Tryd.func8, Tryd.ntmps8
    go_wp2_with fail
    with_reducible refine (HM.out _ (HA.out.below (HBX.out _ _))).mono ?_
    rintro e w1 ⟨rfl, hb⟩
    obtain ⟨hx, hb2⟩ := box_kept hb
    have HB := Lib.hid hb2
    obtain ⟨c0, c1⟩ := two_cells hx
    clear hb hx hb2
    go_wp2_with fail
    with_reducible refine (HW.out _ (HA.out.below HB.out)).mono ?_
    rintro e w2 ⟨v, rfl, hrow, hb2⟩
    have HB2 := Lib.hid (HB.out.trans (hb2.mono HB.out.size))
    obtain ⟨ao2, b2, cap2, rfl, hwa⟩ := WArg.of_row hrow
    have HWA := Lib.hid hwa
    clear hb2 hrow hwa
    go_wp2_with fail
    with_reducible refine (HJ.out _ _ _ _ HWA.out).mono ?_
    rintro e w3 ⟨rfl, hb3⟩
    have HB3 := Lib.hid (HB2.out.trans (hb3.mono HB2.out.size))
    clear hb3
    go_wp2
    go_ret2
    exact ⟨rfl, HB3.out⟩
end Go.Proofs.YtlcfjkmbjggebaaDoor
