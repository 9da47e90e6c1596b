/-
  ProgAny, given the program's contracts.
-/
import Derived.Test.YtmcfjlkjijaflaaDoorPgSaid
namespace Go.Proofs.YtmcfjlkjijaflaaDoor
open Go.RowKit

theorem eq_self (p : Prg) : eqR p p = true := by unfold eqR; simp
theorem parse_nil {L : List Wd} {a : Int} (h : ¬ (parseR L a).2.2 = 0) : (parseR L a).1 = (false, []) := by
  unfold parseR at h ⊢
  split
  · rfl
  · next h1 =>
    rw [if_neg h1] at h
    split
    · rfl
    · next h2 =>
      rw [if_neg h2] at h
      split
      · rfl
      · next h3 =>
        rw [if_neg h3] at h
        cases ho : opsR L 13 ((openR L (a.toNat + 1)).2 + 1) [] with
        | error e => rfl
        | ok x =>
          rw [ho] at h
          exact absurd rfl h
theorem may_small {f : Bool} {L : List Opn} (h : mayR (f, L) = true) : ∀ x ∈ L, small x.1 := by
  intro x hx
  simp only [mayR, Bool.and_eq_true, decide_eq_true_eq, List.all_eq_true] at h
  have ho := h.2.2 x hx
  simp only [opMay, Bool.and_eq_true, Bool.not_eq_true', decide_eq_false_iff_not] at ho
  have := name_kinds ho.1
  unfold small
  omega
theorem parse_len (L : List Wd) (a : Int) : (parseR L a).1.2.length ≤ 12 := by
  by_cases h : (parseR L a).2.2 = 0
  · exact may_le (f := (parseR L a).1.1) (parse_may h)
  · rw [parse_nil h]
    exact Nat.zero_le _
set_option maxRecDepth 100000 in
set_option maxHeartbeats 3200000 in
theorem progany_walk (S : PgSaid) (s : ByteArray) (at_ : Int) (w : World) (hat : small at_) (hg : S.Good w) :
    Calls Tryd.prog 4 #[.string s, .int .i64 at_] w fun e w' => e = .returned (.bool true) ∧ Below w.heap.size w w' := by
  have HG := Lib.hid hg
  have HAW := Lib.hid (awake10 S w hg)
  clear hg
  by_cases hlen : s.size ≤ 200
  · have hl2 : ¬ (200 : Int) < s.size := by omega
    have HSC := Lib.hid (fun W => rscan_any s W)
    have HSL := Lib.hid (scan_len s.data.toList (by rw [← Lib.size_eq]; omega))
    have HSK := Lib.hid (scana_clean s.data.toList)
    have HAT := Lib.hid hat
    clear hat
    go_enter Tryd.func4, Tryd.ntmps4
    go_wp2_with fail
    with_reducible refine HAW.out.mono ?_
    rintro e w1 ⟨rfl, hb1⟩
    have HB1 := Lib.hid hb1
    clear hb1
    go_wp2_with fail
    with_reducible refine (HSC.out _).mono ?_
    rintro e w2 ⟨v, rfl, hr, hb2⟩
    obtain ⟨T, hT⟩ : ∃ T, scanA s.data.toList = T := ⟨_, rfl⟩
    have hsl := HSL.out
    have hsk := HSK.out
    rw [hT] at hr hsl hsk ⊢
    obtain ⟨ws, sp, se⟩ := T
    simp only at hr hsl hsk ⊢
    obtain ⟨ao, b, cap, rfl, hwa⟩ := WArg.of_row hr
    have HWA := Lib.hid hwa
    have HB2 := Lib.hid (HB1.out.trans (hb2.mono HB1.out.size))
    have hp := S.parse ao b 0 cap ws at_ w2 hwa (by omega) HAT.out hsk (S.keep HG.out HB2.out)
    have hrp := fun W (hW : WArg W ao b 0 ws) => rparse_any ao b 0 cap ws at_ W hW (by omega)
    obtain ⟨R, hR⟩ : ∃ R, parseR ws at_ = R := ⟨_, rfl⟩
    have HMY := Lib.hid (fun h0 => parse_may (L := ws) (a := at_) h0)
    have hpl := parse_len ws at_
    rw [hR] at hp HMY hpl
    simp only [hR] at hrp
    obtain ⟨n, hn⟩ : ∃ n, ws.length = n := ⟨_, rfl⟩
    rw [hn] at hp ⊢
    simp only [hn] at hrp
    have HP := Lib.hid hp
    have HRP := Lib.hid hrp
    clear hr hwa hb2 hp hrp hR hT hsl hsk hn HSC HSL HSK HAW
    go_wp2_with fail
    with_reducible refine HP.out.mono ?_
    rintro e w3 ⟨v3, rfl, hr3, hb3⟩
    obtain ⟨⟨f, ops⟩, rn, re⟩ := R
    simp only at hr3 HMY hpl HRP ⊢
    obtain ⟨ao3, b3, cap3, rfl, hoa⟩ := OArg.of_row hr3
    have HOA := Lib.hid hoa
    have HB3 := Lib.hid (HB2.out.trans (hb3.mono HB2.out.size))
    have HWA3 := Lib.hid (HWA.out.below hb3)
    have HX := Lib.hid (heap_alloc_new w3 (.cells #[.bool f, .slice ao3 ops.length cap3] 24))
    have HBX := Lib.hid ((Below.refl w3.heap.size w3).alloc (Nat.le_refl _) (.cells #[.bool f, .slice ao3 ops.length cap3] 24))
    have HRP2 := Lib.hid (HRP.out (w3.alloc (.cells #[.bool f, .slice ao3 ops.length cap3] 24)) (HWA3.out.below HBX.out))
    clear hr3 hb3 hoa HP HRP HWA3 HWA
    go_wp2_with fail
    with_reducible refine HRP2.out.mono ?_
    rintro e w4 ⟨v4, rfl, hr4, hb4⟩
    simp only at hr4 ⊢
    obtain ⟨ao4, b4, cap4, rfl, hoa4⟩ := OArg.of_row hr4
    have hx4 := (hb4.block _ (lt_of_block HX.out)).trans HX.out
    have hlt4 := lt_of_block hx4
    obtain ⟨c0, c1⟩ := two_cells hx4
    have HB3w := Lib.hid (HBX.out.trans (hb4.mono HBX.out.size))
    have HB4 := Lib.hid (HB3.out.trans (HB3w.out.mono HB3.out.size))
    have HOA4 := Lib.hid (HOA.out.below HB3w.out)
    have hb4x := (Below.refl w4.heap.size w4).alloc (Nat.le_refl _) (.cells #[.bool f, .slice ao4 ops.length cap4] 24)
    have hsm := rsame_any f f ao3 ao4 b3 0 b4 0 cap3 cap4 ops ops (w4.alloc (.cells #[.bool f, .slice ao4 ops.length cap4] 24)) (HOA4.out.below hb4x) (hoa4.below hb4x) (by omega) (by omega)
    rw [eq_self] at hsm
    unfold prgV at hsm
    have HSM := Lib.hid hsm
    have HB5 := Lib.hid (HB4.out.trans (hb4x.mono HB4.out.size))
    have HOA5 := Lib.hid (HOA4.out.below hb4x)
    have HX5 := Lib.hid ((hb4x.block _ hlt4).trans hx4)
    clear hr4 hb4 hoa4 hb4x hsm hx4 HRP2
    obtain ⟨m, hm⟩ : ∃ m, ops.length = m := ⟨_, rfl⟩
    have HM := Lib.hid hm
    rw [hm] at hpl HSM HX5 HB5 HOA5 c1 ⊢
    by_cases hre : re = 0
    · subst hre
      have hmy := HMY.out rfl
      have hmay := fun W (hW : OArg W ao3 b3 0 ops) hG => S.may f ao3 b3 0 cap3 ops W hW (by rw [hm]; omega) (may_small hmy) hG
      simp only [hmy, hm, prgV] at hmay
      have HMA := Lib.hid hmay
      clear hmy hmay hm
      go_wp2_with fail
      with_reducible refine HSM.out.mono ?_
      rintro e w5 ⟨rfl, hb5⟩
      have hx5 := (hb5.block _ (lt_of_block HX5.out)).trans HX5.out
      clear c0 c1
      obtain ⟨c0, c1⟩ := two_cells hx5
      have HOA6 := Lib.hid (HOA5.out.below hb5)
      have HB6 := Lib.hid (HB5.out.trans (hb5.mono HB5.out.size))
      clear hb5 hx5
      go_wp2_with fail
      with_reducible refine (HMA.out _ HOA6.out (S.keep HG.out HB6.out)).mono ?_
      rintro e w6 ⟨rfl, hb6⟩
      have HB7 := Lib.hid (HB6.out.trans (hb6.mono HB6.out.size))
      clear hb6
      go_wp2
      go_ret
      exact ⟨rfl, HB7.out⟩
    · have hreb : (re != 0) = true := by simpa using hre
      clear hm
      go_wp2_with fail
      with_reducible refine HSM.out.mono ?_
      rintro e w5 ⟨rfl, hb5⟩
      have HB6 := Lib.hid (HB5.out.trans (hb5.mono HB5.out.size))
      clear hb5
      go_wp2
      go_ret
      exact ⟨rfl, HB6.out⟩
  · have hl2 : (200 : Int) < s.size := by omega
    go_enter Tryd.func4, Tryd.ntmps4
    go_wp2_with fail
    with_reducible refine HAW.out.mono ?_
    rintro e w1 ⟨rfl, hb1⟩
    have HB1 := Lib.hid hb1
    clear hb1
    go_wp2
    go_ret
    exact ⟨rfl, HB1.out⟩
end Go.Proofs.YtmcfjlkjijaflaaDoor
