/-
  SetupAny, given what is said of the program's Parse, May and of awake.
-/
import Derived.Test.YtmcfjlkjijaflaaGreatDoorRuPrs
import Derived.Test.YtmcfjlkjijaflaaGreatDoorGAS
import Derived.Test.YtmcfjlkjijaflaaGreatDoorGAG
import Derived.Test.YtmcfjlkjijaflaaGreatDoorPgClean
import Derived.Test.YtmcfjlkjijaflaaGreatDoorGBD
namespace Go.Proofs.YtmcfjlkjijaflaaGreatDoor
open Go.RowKit

theorem none_size : SSize noneS := ⟨by decide, by decide, by decide, fun x hx => by cases hx⟩
theorem may_size {s : Stp} (h : mayS s = true) : SSize s := by
  obtain ⟨c, g, gs, ls, ps⟩ := s
  rw [mayS_eq] at h
  simp only [Bool.and_eq_true, decide_eq_true_eq, inS, List.all_eq_true] at h
  obtain ⟨_, _, hg, hl, hp, _, _, hf⟩ := h
  refine ⟨by simp only; omega, by simp only; omega, by simp only; omega, fun x hx => ?_⟩
  have hm := check_may (of_decide_eq_true (hf x hx))
  simp only [mayR, Bool.and_eq_true, decide_eq_true_eq, List.all_eq_true] at hm
  exact ⟨by omega, fun o ho => op_small (hm.2.2 o ho)⟩
theorem parse_noneS {L : List Wd} {a : Int} (h : (parseS L a).2.2 ≠ 0) : (parseS L a).1 = noneS := by
  unfold parseS at h ⊢
  split
  · rfl
  · next h1 =>
    rw [if_neg h1] at h
    simp only at h ⊢
    split
    · rfl
    · next h2 =>
      rw [if_neg h2] at h
      split
      · rfl
      · next h3 =>
        rw [h3] at h
        exact absurd rfl h
theorem parse_size (L : List Wd) (a : Int) : SSize (parseS L a).1 := by
  by_cases h : (parseS L a).2.2 = 0
  · exact may_size (setup_may h)
  · rw [parse_noneS h]
    exact none_size
/-- What is said of the program's Parse and May, and of awake. -/
structure SaSaid where
  Good : World → Prop
  keep : ∀ {w w' : World}, Good w → Below w.heap.size w w' → Good w'
  parse : ∀ (ao : Option Addr) (b off cap : Nat) (L : List Wd) (at_ : Int) (w : World), WArg w ao b off L → L.length ≤ 100000 → small at_ → Clean L → Good w →
    Calls Tryz.prog 13 #[.slice ao L.length cap, .int .i64 at_] w (ParseSP (parseS L at_) w)
  may : ∀ (s : Stp) (ag : Option Addr) (bg og cg : Nat) (al : Option Addr) (bl ol cl : Nat) (ap : Option Addr) (bp op cp : Nat) (w : World), SArg w s ag bg og al bl ol ap bp op → SSize s → Good w →
    Calls Tryz.prog 12 #[stV s ag cg al cl ap cp] w fun e w' => e = .returned (.bool (mayS s)) ∧ Below w.heap.size w w'
  awake : ∀ w, Good w → Calls Tryz.prog 6 #[] w fun e w' => e = .returned (.bool true) ∧ Below w.heap.size w w'
set_option maxRecDepth 100000 in
set_option maxHeartbeats 6400000 in
theorem setupany_walk (S : SaSaid) (s : ByteArray) (at_ : Int) (w : World) (hat : small at_) (hg : S.Good w) :
    Calls Tryz.prog 4 #[.string s, .int .i64 at_] w fun e w' => e = .returned (.bool true) ∧ Below w.heap.size w w' := by
  have HG := Lib.hid hg
  have HAW := Lib.hid (S.awake w hg)
  clear hg
  by_cases hlen : s.size ≤ 400
  · have hl2 : ¬ (400 : Int) < s.size := by omega
    have HSC := Lib.hid (fun W => rscan_any s W)
    have HSL := Lib.hid (scan_len s.data.toList (by rw [← Lib.size_eq]; omega))
    have HSK := Lib.hid (scana_clean s.data.toList)
    have HAT := Lib.hid hat
    clear hat
    go_enter Tryz.func4, Tryz.ntmps4
    go_wp2_with fail
    with_reducible refine HAW.out.mono ?_
    rintro e w1 ⟨rfl, hb1⟩
    have HB1 := Lib.hid hb1
    clear hb1
    go_wp2_with fail
    with_reducible refine (HSC.out _).mono ?_
    rintro e w2 ⟨v, rfl, hr, hb2⟩
    obtain ⟨T, hT⟩ : ∃ T, scanA s.data.toList = T := ⟨_, rfl⟩
    have hsl := HSL.out
    have hsk := HSK.out
    rw [hT] at hr hsl hsk ⊢
    obtain ⟨ws, sp, se⟩ := T
    simp only at hr hsl hsk ⊢
    obtain ⟨ao, b, cap, rfl, hwa⟩ := WArg.of_row hr
    have HWA := Lib.hid hwa
    have HB2 := Lib.hid (HB1.out.trans (hb2.mono HB1.out.size))
    have hp := S.parse ao b 0 cap ws at_ w2 hwa (by omega) HAT.out hsk (S.keep HG.out HB2.out)
    have hrp := fun W (hW : WArg W ao b 0 ws) => rsparse_any ao b 0 cap ws at_ W hW (by omega)
    obtain ⟨R, hR⟩ : ∃ R, parseS ws at_ = R := ⟨_, rfl⟩
    have HMY := Lib.hid (fun h0 => setup_may (L := ws) (a := at_) h0)
    have HSZ := Lib.hid (parse_size ws at_)
    rw [hR] at hp HMY HSZ
    simp only [hR] at hrp
    obtain ⟨n, hn⟩ : ∃ n, ws.length = n := ⟨_, rfl⟩
    rw [hn] at hp ⊢
    simp only [hn] at hrp
    have HP := Lib.hid hp
    have HRP := Lib.hid hrp
    clear hr hwa hb2 hp hrp hR hT hsl hsk hn HSC HSL HSK HAW
    obtain ⟨⟨c, g, gs, ls, ps⟩, rn, re⟩ := R
    simp only at HMY HSZ
    go_wp2_with fail
    with_reducible refine HP.out.mono ?_
    rintro e w3 ⟨ag, bg, og, cg, al, bl, ol, cl, ap, bp, op, cp, rfl, hsa, hb3⟩
    simp only at hsa ⊢
    have HSA := Lib.hid hsa
    have HB3 := Lib.hid (HB2.out.trans (hb3.mono HB2.out.size))
    have HWA3 := Lib.hid (HWA.out.below hb3)
    have HX := Lib.hid (heap_alloc_new w3 (.cells #[.int .i64 c, .int .i64 g, .slice ag gs.length cg, .slice al ls.length cl, .slice ap ps.length cp] 26))
    have HBX := Lib.hid ((Below.refl w3.heap.size w3).alloc (Nat.le_refl _) (.cells #[.int .i64 c, .int .i64 g, .slice ag gs.length cg, .slice al ls.length cl, .slice ap ps.length cp] 26))
    have HRP2 := Lib.hid (HRP.out (w3.alloc (.cells #[.int .i64 c, .int .i64 g, .slice ag gs.length cg, .slice al ls.length cl, .slice ap ps.length cp] 26)) (HWA3.out.below HBX.out))
    clear hb3 hsa HP HRP HWA3 HWA
    go_wp2_with fail
    with_reducible refine HRP2.out.mono ?_
    rintro e w4 ⟨ag4, bg4, og4, cg4, al4, bl4, ol4, cl4, ap4, bp4, op4, cp4, rfl, hsa4, hb4⟩
    simp only at hsa4 ⊢
    have hx4 := (hb4.block _ (lt_of_block HX.out)).trans HX.out
    have hlt4 := lt_of_block hx4
    have HB3w := Lib.hid (HBX.out.trans (hb4.mono HBX.out.size))
    have HB4 := Lib.hid (HB3.out.trans (HB3w.out.mono HB3.out.size))
    have HSA4 := Lib.hid (HSA.out.below HB3w.out)
    have hb4x := (Below.refl w4.heap.size w4).alloc (Nat.le_refl _) (.cells #[.int .i64 c, .int .i64 g, .slice ag4 gs.length cg4, .slice al4 ls.length cl4, .slice ap4 ps.length cp4] 26)
    have hsm := rssame_any (c, g, gs, ls, ps) ag bg og cg al bl ol cl ap bp op cp (c, g, gs, ls, ps) ag4 bg4 og4 cg4 al4 bl4 ol4 cl4 ap4 bp4 op4 cp4 (w4.alloc (.cells #[.int .i64 c, .int .i64 g, .slice ag4 gs.length cg4, .slice al4 ls.length cl4, .slice ap4 ps.length cp4] 26)) (HSA4.out.below hb4x) (hsa4.below hb4x) HSZ.out HSZ.out
    rw [eqS_self] at hsm
    simp only [stC] at hsm
    have HSM := Lib.hid hsm
    have HB5 := Lib.hid (HB4.out.trans (hb4x.mono HB4.out.size))
    have HSA5 := Lib.hid (HSA4.out.below hb4x)
    have HX5 := Lib.hid ((hb4x.block _ hlt4).trans hx4)
    obtain ⟨c0, c1, c2, c3, c4⟩ := st_cells hx4
    clear hsa4 hb4 hb4x hsm hx4 HRP2
    by_cases hre : re = 0
    · subst hre
      have hmy := HMY.out rfl
      have hmay : ∀ W, SArg W (c, g, gs, ls, ps) ag bg og al bl ol ap bp op → S.Good W → Calls Tryz.prog 12 #[.agg #[.int .i64 c, .int .i64 g, .slice ag gs.length cg, .slice al ls.length cl, .slice ap ps.length cp]] W fun e w' => e = .returned (.bool true) ∧ Below W.heap.size W w' := fun W hW hG => by
        have h := S.may (c, g, gs, ls, ps) ag bg og cg al bl ol cl ap bp op cp W hW HSZ.out hG
        rw [hmy] at h
        exact h
      have HMA := Lib.hid hmay
      clear hmy hmay
      go_wp2_with fail
      with_reducible refine HSM.out.mono ?_
      rintro e w5 ⟨rfl, hb5⟩
      have hx5 := (hb5.block _ (lt_of_block HX5.out)).trans HX5.out
      clear c0 c1 c2 c3 c4
      obtain ⟨c0, c1, c2, c3, c4⟩ := st_cells hx5
      have HSA6 := Lib.hid (HSA5.out.below hb5)
      have HB6 := Lib.hid (HB5.out.trans (hb5.mono HB5.out.size))
      clear hb5 hx5
      go_wp2_with fail
      with_reducible refine (HMA.out _ HSA6.out (S.keep HG.out HB6.out)).mono ?_
      rintro e w6 ⟨rfl, hb6⟩
      have HB7 := Lib.hid (HB6.out.trans (hb6.mono HB6.out.size))
      clear hb6
      go_wp2
      go_ret
      exact ⟨rfl, HB7.out⟩
    · have hreb : (re != 0) = true := by simpa using hre
      go_wp2_with fail
      with_reducible refine HSM.out.mono ?_
      rintro e w5 ⟨rfl, hb5⟩
      have HB6 := Lib.hid (HB5.out.trans (hb5.mono HB5.out.size))
      clear hb5
      go_wp2
      go_ret
      exact ⟨rfl, HB6.out⟩
  · have hl2 : (400 : Int) < s.size := by omega
    go_enter Tryz.func4, Tryz.ntmps4
    go_wp2_with fail
    with_reducible refine HAW.out.mono ?_
    rintro e w1 ⟨rfl, hb1⟩
    have HB1 := Lib.hid hb1
    clear hb1
    go_wp2
    go_ret
    exact ⟨rfl, HB1.out⟩
end Go.Proofs.YtmcfjlkjijaflaaGreatDoor
