/-
  The document's Print of setups.
  SetupBack's walk.
-/
import Derived.Test.YtmcfjlkjijaflaaGreatDoorRuWords
import Derived.Test.YtmcfjlkjijaflaaGreatDoorRuMay
import Derived.Test.YtmcfjlkjijaflaaGreatDoorGAU
import Derived.Test.YtmcfjlkjijaflaaGreatDoorGBA
import Derived.Test.YtmcfjlkjijaflaaGreatDoorGAS
import Derived.Test.YtmcfjlkjijaflaaGreatDoorSpSame
import Derived.Test.YtmcfjlkjijaflaaGreatDoorGAV
import Derived.Test.YtmcfjlkjijaflaaGreatDoorGBB

/- The document's Print of setups. -/
namespace Go.Proofs.YtmcfjlkjijaflaaGreatDoor
open Go.RowKit

theorem may_lens {s : Stp} (h : mayS s = true) : s.2.2.1.length ≤ 4 ∧ s.2.2.2.1.length ≤ 8 ∧ s.2.2.2.2.length ≤ 8 ∧ ∀ x ∈ s.2.2.2.2, x.2.length ≤ 12 := by
  have hm := (may_is s).symm.trans h
  simp only [Bool.and_eq_true, inS, decide_eq_true_eq] at hm
  obtain ⟨⟨m1, m2, m3⟩, -, m4⟩ := hm
  refine ⟨by omega, m2, by omega, fun x hx => ?_⟩
  have hp := check_may (of_decide_eq_true (List.all_eq_true.1 ((mis_all _ _ _ _).1 m4) x hx))
  obtain ⟨f, L⟩ := x
  simp only [mayR, Bool.and_eq_true, decide_eq_true_eq] at hp
  simp only
  omega
set_option maxRecDepth 100000 in
set_option maxHeartbeats 3200000 in
theorem rsprint_any (s : Stp) (ag : Option Addr) (bg og cg : Nat) (al : Option Addr) (bl ol cl : Nat) (ap : Option Addr) (bp op cp : Nat) (w : World) (h : SArg w s ag bg og al bl ol ap bp op) (hz : SSize s) :
    Calls Tryz.prog 9 #[.agg (stC s.1 s.2.1 ag s.2.2.1.length cg al s.2.2.2.1.length cl ap s.2.2.2.2.length cp)] w (PrintP (printS s) w) := by
  have HB0 := Lib.hid ((Below.refl w.heap.size w).alloc (Nat.le_refl _) (.cells (stC s.1 s.2.1 ag s.2.2.1.length cg al s.2.2.2.1.length cl ap s.2.2.2.2.length cp) 26))
  have hmay := rsmay_any s ag bg og cg al bl ol cl ap bp op cp _ (h.below HB0.out) hz
  cases hq : mayS s with
  | false =>
    have e : printS s = ([], 1) := by unfold printS; rw [hq]; rfl
    rw [e]
    simp only [hq] at hmay
    obtain ⟨c, g, gs, ls, ps⟩ := s
    simp only at HB0 hmay ⊢
    obtain ⟨np, hnp⟩ : ∃ n, ps.length = n := ⟨_, rfl⟩
    obtain ⟨nl, hnl⟩ : ∃ n, ls.length = n := ⟨_, rfl⟩
    obtain ⟨ng, hng⟩ : ∃ n, gs.length = n := ⟨_, rfl⟩
    rw [hnp, hnl, hng] at HB0 hmay
    rw [hnp, hnl, hng]
    have HM := Lib.hid hmay
    clear hmay hq e h hz hnp hnl hng
    go_enter Tryz.func9, Tryz.ntmps9
    go_wp2_with fail
    with_reducible refine HM.out.mono ?_
    rintro e w1 ⟨rfl, hb⟩
    have HB := Lib.hid (HB0.out.trans (hb.mono HB0.out.size))
    clear hb
    go_wp2
    go_ret2
    exact ⟨rfl, HB.out⟩
  | true =>
    have e : printS s = joinA (wordsS s) := by unfold printS; rw [hq]; rfl
    rw [e]
    have h60 := swords_len hq
    have hsh := swords_short s
    obtain ⟨z1, z2, z3, z4⟩ := may_lens hq
    have hw := fun W (hW : SArg W s ag bg og al bl ol ap bp op) => rswords_any s ag bg og cg al bl ol cl ap bp op cp W hW z1 z2 z3 (fun x hx => ⟨z4 x hx, (hz.ops x hx).2⟩)
    simp only [hq] at hmay
    obtain ⟨W, hW⟩ : ∃ W, wordsS s = W := ⟨_, rfl⟩
    rw [hW] at h60 hsh ⊢
    simp only [hW] at hw
    have HA := Lib.hid h
    obtain ⟨c, g, gs, ls, ps⟩ := s
    simp only at HB0 hmay hw ⊢
    obtain ⟨np, hnp⟩ : ∃ n, ps.length = n := ⟨_, rfl⟩
    obtain ⟨nl, hnl⟩ : ∃ n, ls.length = n := ⟨_, rfl⟩
    obtain ⟨ng, hng⟩ : ∃ n, gs.length = n := ⟨_, rfl⟩
    simp only [hnp, hnl, hng] at HB0 hmay hw ⊢
    have HM := Lib.hid hmay
    have HW := Lib.hid hw
    have HJ := Lib.hid (fun ao b cap X hX => rjoin_long ao b 0 cap W X hX (by omega) hsh)
    clear hmay hw hq e h hz hW hsh h60 hnp hnl hng z1 z2 z3 z4
    go_enter Tryz.func9, Tryz.ntmps9
    go_wp2_with fail
    with_reducible refine HM.out.mono ?_
    rintro e w1 ⟨rfl, hb⟩
    obtain ⟨hx, hb2⟩ := box_kept hb
    have HB := Lib.hid hb2
    obtain ⟨c0, c1, c2, c3, c4⟩ := st_cells hx
    clear hb hx hb2
    go_wp2_with fail
    with_reducible refine (HW.out _ (HA.out.below HB.out)).mono ?_
    rintro e w2 ⟨v, rfl, hrow, hb2⟩
    have HB2 := Lib.hid (HB.out.trans (hb2.mono HB.out.size))
    obtain ⟨ao2, b2, cap2, rfl, hwa⟩ := WArg.of_row hrow
    have HWA := Lib.hid hwa
    clear hb2 hrow hwa
    go_wp2_with fail
    with_reducible refine (HJ.out _ _ _ _ HWA.out).mono ?_
    rintro e w3 ⟨rfl, hb3⟩
    have HB3 := Lib.hid (HB2.out.trans (hb3.mono HB2.out.size))
    clear hb3
    go_wp2
    go_ret2
    exact ⟨rfl, HB3.out⟩
end Go.Proofs.YtmcfjlkjijaflaaGreatDoor

/- SetupBack's walk. -/
namespace Go.Proofs.YtmcfjlkjijaflaaGreatDoor
open Go.RowKit

theorem fieldw_clean {nm : List By} {n : Int} : ∀ x ∈ fieldW nm n, (x.1 ≠ 2 → x.2.2.1 = 0) ∧ (x.1 = 2 → x.2.1 = []) := by
  intro x hx
  simp only [fieldW, List.mem_cons, List.not_mem_nil, or_false] at hx
  rcases hx with rfl | rfl
  · exact ⟨fun _ => rfl, fun h => by simp at h⟩
  · exact ⟨fun h => absurd rfl h, fun _ => rfl⟩
theorem swords_clean (s : Stp) : Clean (wordsS s) := by
  have hsemi : ((semiW.1 : Int) ≠ 2 → semiW.2.2.1 = 0) ∧ (semiW.1 = 2 → semiW.2.1 = []) := ⟨fun _ => rfl, fun h => by simp at h⟩
  intro x hx
  unfold wordsS at hx
  simp only [List.mem_append, List.mem_flatMap, List.mem_singleton] at hx
  rcases hx with (((((h | rfl) | h | rfl) | ⟨n, _, h⟩) | ⟨k, _, h⟩) | ⟨p, _, h⟩)
  · exact fieldw_clean x h
  · exact hsemi
  · exact fieldw_clean x h
  · exact hsemi
  · simp only [groupW, List.mem_append, List.mem_singleton] at h
    rcases h with h | rfl
    · exact fieldw_clean x h
    · exact hsemi
  · obtain ⟨sh, a, b, c, d⟩ := k
    unfold lockW at h
    simp only [List.mem_cons, List.mem_append, List.not_mem_nil, or_false] at h
    rcases h with rfl | h | h | h | rfl
    · exact ⟨fun _ => rfl, fun h => by simp at h⟩
    · exact fieldw_clean x h
    · exact fieldw_clean x h
    · cases sh with
      | true =>
        simp only [if_true, List.mem_append] at h
        rcases h with h | h
        · exact fieldw_clean x h
        · exact fieldw_clean x h
      | false => simp at h
    · exact hsemi
  · exact words_clean p x h
/-- The words of a setup that may be are parsed to it. -/
theorem setup_words {s : Stp} (h : mayS s = true) : parseS (wordsS s) 0 = (s, ((wordsS s).length : Int), 0) := by
  have h2 := setup_back h (L := wordsS s) (ws := wordsS s) (r := []) (a := 0) (by simp) (sameL_refl _) (Nat.zero_le _) (is_empty (by omega))
  simpa using h2
/-- The boxes of the setup and of what is parsed. -/
structure Sb2 (w V : World) (cs : Array Value) (Q : Nat) (ds : Array Value) : Prop where
  sy : SyX w V cs
  xb : V.heap[Q]? = some (.cells ds 26 (0, 0))
theorem Sb2.below {w V V' : World} {cs ds : Array Value} {Q : Nat} (h : Sb2 w V cs Q ds) (hb : Below V.heap.size V V') : Sb2 w V' cs Q ds :=
  ⟨h.sy.below hb, (hb.block _ (lt_of_block h.xb)).trans h.xb⟩
set_option maxRecDepth 100000 in
set_option maxHeartbeats 12800000 in
theorem setupback_walk (s : Stp) (ag : Option Addr) (bg og cg : Nat) (al : Option Addr) (bl ol cl : Nat) (ap : Option Addr) (bp op cp : Nat) (w : World) (h : SArg w s ag bg og al bl ol ap bp op) (hs : ∀ p ∈ s.2.2.2.2, ∀ o ∈ p.2, small o.1) (hT : TabOk w) :
    Calls Tryz.prog 3 #[stV s ag cg al cl ap cp] w fun e w' => e = .returned (.bool true) ∧ Below w.heap.size w w' := by
  obtain ⟨a0, a1, a2, a3, a4, ha⟩ : ∃ a0 a1 a2 a3 a4 : Value, (stC s.1 s.2.1 ag s.2.2.1.length cg al s.2.2.2.1.length cl ap s.2.2.2.2.length cp) = #[a0, a1, a2, a3, a4] := ⟨_, _, _, _, _, rfl⟩
  have hv : stV s ag cg al cl ap cp = .agg #[a0, a1, a2, a3, a4] := congrArg Value.agg ha
  have HT := Lib.hid hT
  have HAW := Lib.hid (fun V (hV : SyX w V #[a0, a1, a2, a3, a4]) => (awake12 V (HT.out.below hV.bel)).mono fun e w' h => (⟨h.1, hV.below h.2⟩ : e = .returned (.bool true) ∧ SyX w w' #[a0, a1, a2, a3, a4]))
  have hsa : ∀ V, SyX w V #[a0, a1, a2, a3, a4] → Calls Tryz.prog 7 #[.agg #[a0, a1, a2, a3, a4]] V fun e w' => e = .returned (.bool (smallS s)) ∧ SyX w w' #[a0, a1, a2, a3, a4] := fun V hV => by
    have hx := ssmall_any s ag bg og cg al bl ol cl ap bp op cp V (h.below hV.bel)
    rw [ha] at hx
    exact hx.mono fun e w' h => ⟨h.1, hV.below h.2⟩
  have HY0 : Hid (SyX w (w.alloc (.cells #[a0, a1, a2, a3, a4] 26)) #[a0, a1, a2, a3, a4]) := Lib.hid ⟨heap_alloc_new w _, (Below.refl _ w).alloc (Nat.le_refl _) _⟩
  rw [hv]
  cases qa : smallS s with
  | false =>
    simp only [qa] at hsa
    have HSA := Lib.hid hsa
    clear hsa ha hv h hs hT qa
    go_enter Tryz.func3, Tryz.ntmps3
    go_wp2_with fail
    with_reducible refine (HAW.out _ HY0.out).mono ?_
    rintro e w1 ⟨rfl, k1⟩
    obtain ⟨c0, c1, c2, c3, c4⟩ := st_cells k1.box
    have HK1 := Lib.hid k1
    clear k1
    go_wp2_with fail
    with_reducible refine (HSA.out _ HK1.out).mono ?_
    rintro e w2 ⟨rfl, k2⟩
    have HK2 := Lib.hid k2
    clear k2
    go_wp2
    go_ret
    exact ⟨rfl, HK2.out.bel⟩
  | true =>
    have hz := smallS_size qa hs
    obtain ⟨⟨pt, pe⟩, hpt⟩ : ∃ x, printS s = x := ⟨_, rfl⟩
    obtain ⟨sp, hsp⟩ : ∃ sp : ByteArray, ⟨pt.toArray⟩ = sp := ⟨_, rfl⟩
    have hpp : ∀ V, SyX w V #[a0, a1, a2, a3, a4] → Calls Tryz.prog 8 #[.agg #[a0, a1, a2, a3, a4]] V fun e w' => e = .returned (.tuple #[.string sp, .int .i64 pe]) ∧ SyX w w' #[a0, a1, a2, a3, a4] := fun V hV => by
      have hx := psprint_any s ag bg og cg al bl ol cl ap bp op cp V (h.below hV.bel) (HT.out.below hV.bel)
      unfold PrintP at hx
      rw [ha, hpt] at hx
      simp only [hsp] at hx
      exact hx.mono fun e w' h => ⟨h.1, hV.below h.2⟩
    have hrp : ∀ V, SyX w V #[a0, a1, a2, a3, a4] → Calls Tryz.prog 9 #[.agg #[a0, a1, a2, a3, a4]] V fun e w' => e = .returned (.tuple #[.string sp, .int .i64 pe]) ∧ SyX w w' #[a0, a1, a2, a3, a4] := fun V hV => by
      have hx := rsprint_any s ag bg og cg al bl ol cl ap bp op cp V (h.below hV.bel) hz
      unfold PrintP at hx
      rw [ha, hpt] at hx
      simp only [hsp] at hx
      exact hx.mono fun e w' h => ⟨h.1, hV.below h.2⟩
    have hpm : ∀ V, SyX w V #[a0, a1, a2, a3, a4] → Calls Tryz.prog 12 #[.agg #[a0, a1, a2, a3, a4]] V fun e w' => e = .returned (.bool (mayS s)) ∧ Below V.heap.size V w' := fun V hV => by
      have hx := psmay_any s ag bg og cg al bl ol cl ap bp op cp V (h.below hV.bel)
      rw [ha] at hx
      exact hx
    have hrm : ∀ V, SyX w V #[a0, a1, a2, a3, a4] → Calls Tryz.prog 11 #[.agg #[a0, a1, a2, a3, a4]] V fun e w' => e = .returned (.bool (mayS s)) ∧ Below V.heap.size V w' := fun V hV => by
      have hx := rsmay_any s ag bg og cg al bl ol cl ap bp op cp V (h.below hV.bel) hz
      rw [ha] at hx
      exact hx
    have hspp : (sp.toList != sp.toList) = false := by simp
    have hpe : (pe != pe) = false := by simp
    simp only [qa] at hsa
    have HSA := Lib.hid hsa
    have HPP := Lib.hid hpp
    have HRP := Lib.hid hrp
    clear hsa hpp hrp
    cases qm : mayS s with
    | false =>
      have hpw : ∀ V, SyX w V #[a0, a1, a2, a3, a4] → Calls Tryz.prog 10 #[.agg #[a0, a1, a2, a3, a4]] V fun e w' => e = .returned (.tuple #[.slice none 0 0, .int .i64 1]) ∧ SyX w w' #[a0, a1, a2, a3, a4] := fun V hV => by
        have hx := pswords_any s ag bg og cg al bl ol cl ap bp op cp V (h.below hV.bel)
        rw [ha] at hx
        unfold SWordsP at hx
        simp only [qm, Bool.false_eq_true, if_false] at hx
        exact hx.mono fun e w' h => ⟨h.1, hV.below h.2⟩
      simp only [qm] at hpm hrm
      have HPM := Lib.hid hpm
      have HRM := Lib.hid hrm
      have HPW := Lib.hid hpw
      clear hpm hrm hpw ha hv h hs hT qa qm hz hpt hsp
      go_enter Tryz.func3, Tryz.ntmps3
      go_wp2_with fail
      with_reducible refine (HAW.out _ HY0.out).mono ?_
      rintro e w1 ⟨rfl, k⟩
      obtain ⟨c0, c1, c2, c3, c4⟩ := st_cells k.box
      have HK1 := Lib.hid k
      clear k
      go_wp2_with fail
      with_reducible refine (HSA.out _ HK1.out).mono ?_
      rintro e w2 ⟨rfl, k⟩
      clear c0 c1 c2 c3 c4
      obtain ⟨c0, c1, c2, c3, c4⟩ := st_cells k.box
      have HK2 := Lib.hid k
      clear k
      go_wp2_with fail
      with_reducible refine (HPP.out _ HK2.out).mono ?_
      rintro e w3 ⟨rfl, k⟩
      clear c0 c1 c2 c3 c4
      obtain ⟨c0, c1, c2, c3, c4⟩ := st_cells k.box
      have HK3 := Lib.hid k
      clear k
      go_wp2_with fail
      with_reducible refine (HRP.out _ HK3.out).mono ?_
      rintro e w4 ⟨rfl, k⟩
      clear c0 c1 c2 c3 c4
      obtain ⟨c0, c1, c2, c3, c4⟩ := st_cells k.box
      have HK4 := Lib.hid k
      clear k
      go_wp2_with fail
      with_reducible refine (HPW.out _ HK4.out).mono ?_
      rintro e w5 ⟨rfl, k⟩
      clear c0 c1 c2 c3 c4
      obtain ⟨c0, c1, c2, c3, c4⟩ := st_cells k.box
      have HK5 := Lib.hid k
      clear k
      go_wp2_with fail
      with_reducible refine (HRM.out _ HK5.out).mono ?_
      rintro e w6 ⟨rfl, hb⟩
      clear c0 c1 c2 c3 c4
      have HK6 := Lib.hid (HK5.out.below hb)
      clear hb
      obtain ⟨c0, c1, c2, c3, c4⟩ := st_cells HK6.out.box
      go_wp2_with fail
      with_reducible refine (HPM.out _ HK6.out).mono ?_
      rintro e w7 ⟨rfl, hb⟩
      clear c0 c1 c2 c3 c4
      have HK7 := Lib.hid (HK6.out.below hb)
      clear hb
      go_wp2
      go_ret
      exact ⟨rfl, HK7.out.bel⟩
    | true =>
      have hpa := setup_words qm
      have hwl := swords_len qm
      have hwc := swords_clean s
      obtain ⟨z1, z2, z3, z4⟩ := may_lens qm
      obtain ⟨ws, hws⟩ : ∃ ws, wordsS s = ws := ⟨_, rfl⟩
      rw [hws] at hpa hwl hwc
      have hpw : ∀ V, SyX w V #[a0, a1, a2, a3, a4] → Calls Tryz.prog 10 #[.agg #[a0, a1, a2, a3, a4]] V fun e w' => ∃ v, e = .returned (.tuple #[v, .int .i64 0]) ∧ WRow V.heap.size w' v ws ∧ SyX w w' #[a0, a1, a2, a3, a4] := fun V hV => by
        have hx := pswords_any s ag bg og cg al bl ol cl ap bp op cp V (h.below hV.bel)
        rw [ha] at hx
        unfold SWordsP at hx
        simp only [qm, if_true, hws] at hx
        exact hx.mono fun e w' ⟨v, h1, h2, h3⟩ => ⟨v, h1, h2, hV.below h3⟩
      have hrw : ∀ V (Q : Nat) (ds : Array Value), Sb2 w V #[a0, a1, a2, a3, a4] Q ds → Calls Tryz.prog 15 #[.agg #[a0, a1, a2, a3, a4]] V (WordsP ws V) := fun V Q ds hV => by
        have hx := rswords_any s ag bg og cg al bl ol cl ap bp op cp V (h.below hV.sy.bel) z1 z2 z3 (fun x hx => ⟨z4 x hx, hs x hx⟩)
        rw [ha, hws] at hx
        exact hx
      obtain ⟨m, hm⟩ : ∃ m, ws.length = m := ⟨_, rfl⟩
      obtain ⟨x0, hx0⟩ : ∃ x, s.1 = x := ⟨_, rfl⟩
      obtain ⟨x1, hx1⟩ : ∃ x, s.2.1 = x := ⟨_, rfl⟩
      obtain ⟨n2, hn2⟩ : ∃ x, s.2.2.1.length = x := ⟨_, rfl⟩
      obtain ⟨n3, hn3⟩ : ∃ x, s.2.2.2.1.length = x := ⟨_, rfl⟩
      obtain ⟨n4, hn4⟩ : ∃ x, s.2.2.2.2.length = x := ⟨_, rfl⟩
      have hpx : ∀ (ao : Option Addr) (b cap : Nat) (V : World), WArg V ao b 0 ws → Calls Tryz.prog 13 #[.slice ao m cap, .int .i64 0] V fun e w' => ∃ (ag2 : Option Addr) (bg2 og2 cg2 : Nat) (al2 : Option Addr) (bl2 ol2 cl2 : Nat) (ap2 : Option Addr) (bp2 op2 cp2 : Nat),
          e = .returned (.tuple #[.agg #[.int .i64 x0, .int .i64 x1, .slice ag2 n2 cg2, .slice al2 n3 cl2, .slice ap2 n4 cp2], .int .i64 m, .int .i64 0]) ∧ SArg w' s ag2 bg2 og2 al2 bl2 ol2 ap2 bp2 op2 ∧ Below V.heap.size V w' := fun ao b cap V hV => by
        have hx := psparse_any ao b 0 cap ws 0 V hV (by omega) hwc
        rw [hpa, hm] at hx
        unfold ParseSP at hx
        simp only [hx0, hx1, hn2, hn3, hn4] at hx
        exact hx
      have HPA := Lib.hid hpx
      have HM := Lib.hid hm
      rw [hm] at hwl
      have HRS := Lib.hid (fun ag2 bg2 og2 cg2 al2 bl2 ol2 cl2 ap2 bp2 op2 cp2 V (h2 : SArg V s ag2 bg2 og2 al2 bl2 ol2 ap2 bp2 op2) (hV : SyX w V #[a0, a1, a2, a3, a4]) => rssame_any s ag2 bg2 og2 cg2 al2 bl2 ol2 cl2 ap2 bp2 op2 cp2 s ag bg og cg al bl ol cl ap bp op cp V h2 (h.below hV.bel) hz hz)
      have HPS := Lib.hid (fun ag2 bg2 og2 cg2 al2 bl2 ol2 cl2 ap2 bp2 op2 cp2 V (h2 : SArg V s ag2 bg2 og2 al2 bl2 ol2 ap2 bp2 op2) (hV : SyX w V #[a0, a1, a2, a3, a4]) => pssame_any s ag2 bg2 og2 cg2 al2 bl2 ol2 cl2 ap2 bp2 op2 cp2 s ag bg og cg al bl ol cl ap bp op cp V h2 (h.below hV.bel) hz hz)
      rw [ha, eqS_self] at HRS HPS
      simp only [qm] at hpm hrm
      simp only [hx0, hx1, hn2, hn3, hn4] at HRS HPS
      have HPM := Lib.hid hpm
      have HRM := Lib.hid hrm
      have HPW := Lib.hid hpw
      have HRW := Lib.hid hrw
      have HWL := Lib.hid hwl
      clear hpm hrm hpw hrw ha hv h hs hT qa qm hz hpt hsp hpa hwl hwc z1 z2 z3 z4 hws hpx hm hx0 hx1 hn2 hn3 hn4
      go_enter Tryz.func3, Tryz.ntmps3
      go_wp2_with fail
      with_reducible refine (HAW.out _ HY0.out).mono ?_
      rintro e w1 ⟨rfl, k⟩
      obtain ⟨c0, c1, c2, c3, c4⟩ := st_cells k.box
      have HK1 := Lib.hid k
      clear k
      go_wp2_with fail
      with_reducible refine (HSA.out _ HK1.out).mono ?_
      rintro e w2 ⟨rfl, k⟩
      clear c0 c1 c2 c3 c4
      obtain ⟨c0, c1, c2, c3, c4⟩ := st_cells k.box
      have HK2 := Lib.hid k
      clear k
      go_wp2_with fail
      with_reducible refine (HPP.out _ HK2.out).mono ?_
      rintro e w3 ⟨rfl, k⟩
      clear c0 c1 c2 c3 c4
      obtain ⟨c0, c1, c2, c3, c4⟩ := st_cells k.box
      have HK3 := Lib.hid k
      clear k
      go_wp2_with fail
      with_reducible refine (HRP.out _ HK3.out).mono ?_
      rintro e w4 ⟨rfl, k⟩
      clear c0 c1 c2 c3 c4
      obtain ⟨c0, c1, c2, c3, c4⟩ := st_cells k.box
      have HK4 := Lib.hid k
      clear k
      go_wp2_with fail
      refine (HPW.out _ HK4.out).mono ?_
      rintro e w5 ⟨v, rfl, hrow, k⟩
      clear c0 c1 c2 c3 c4
      obtain ⟨c0, c1, c2, c3, c4⟩ := st_cells k.box
      have HK5 := Lib.hid k
      obtain ⟨ao, b5, cap5, rfl, hwa⟩ := WArg.of_row hrow
      have HWA5 := Lib.hid hwa
      rw [HM.out]
      clear k hrow hwa
      have hmm : ((m : Int) == m) = true := by simp
      go_wp2_with fail
      with_reducible refine (HRM.out _ HK5.out).mono ?_
      rintro e w6 ⟨rfl, hb⟩
      clear c0 c1 c2 c3 c4
      have HK6 := Lib.hid (HK5.out.below hb)
      have HWA6 := Lib.hid (HWA5.out.below hb)
      clear hb
      obtain ⟨c0, c1, c2, c3, c4⟩ := st_cells HK6.out.box
      go_wp2_with fail
      with_reducible refine (HPM.out _ HK6.out).mono ?_
      rintro e w7 ⟨rfl, hb⟩
      clear c0 c1 c2 c3 c4
      have HK7 := Lib.hid (HK6.out.below hb)
      have HWA7 := Lib.hid (HWA6.out.below hb)
      clear hb
      go_wp2_with fail
      refine (HPA.out _ _ _ _ HWA7.out).mono ?_
      rintro e w8 ⟨ag2, bg2, og2, cg2, al2, bl2, ol2, cl2, ap2, bp2, op2, cp2, rfl, hsa2, hb⟩
      have hrs := HRS.out ag2 bg2 og2 cg2 al2 bl2 ol2 cl2 ap2 bp2 op2 cp2
      have hps := HPS.out ag2 bg2 og2 cg2 al2 bl2 ol2 cl2 ap2 bp2 op2 cp2
      have HRS2 := Lib.hid hrs
      have HPS2 := Lib.hid hps
      have hbx : Below w8.heap.size w8 (w8.alloc (.cells #[.int .i64 x0, .int .i64 x1, .slice ag2 n2 cg2, .slice al2 n3 cl2, .slice ap2 n4 cp2] 26)) := (Below.refl _ w8).alloc (Nat.le_refl _) _
      have hk8 := HK7.out.below hb
      have hs9 : Sb2 w (w8.alloc (.cells #[.int .i64 x0, .int .i64 x1, .slice ag2 n2 cg2, .slice al2 n3 cl2, .slice ap2 n4 cp2] 26)) #[a0, a1, a2, a3, a4] w8.heap.size #[.int .i64 x0, .int .i64 x1, .slice ag2 n2 cg2, .slice al2 n3 cl2, .slice ap2 n4 cp2] := ⟨hk8.below hbx, heap_alloc_new w8 _⟩
      have hsa9 := hsa2.below hbx
      have hwa9 := (HWA7.out.below hb).below hbx
      obtain ⟨X9, hX9⟩ : ∃ X9, w8.alloc (.cells #[.int .i64 x0, .int .i64 x1, .slice ag2 n2 cg2, .slice al2 n3 cl2, .slice ap2 n4 cp2] 26) = X9 := ⟨_, rfl⟩
      obtain ⟨Q, hQ⟩ : ∃ Q, w8.heap.size = Q := ⟨_, rfl⟩
      rw [hX9] at hs9 hsa9 hwa9
      rw [hQ] at hs9
      have HS9 := Lib.hid hs9
      have HA9 := Lib.hid hsa9
      have HWA9 := Lib.hid hwa9
      have HX9 := Lib.hid hX9
      have HQ := Lib.hid hQ
      obtain ⟨c0, c1, c2, c3, c4⟩ := st_cells hk8.box
      have hl8 := lt_of_block hk8.box
      clear hrs hps hbx hk8 hs9 hsa9 hwa9 hX9 hQ hsa2 hb
      go_wp2_with fail
      rw [HX9.out, HQ.out]
      refine (HRW.out _ _ _ HS9.out).mono ?_
      rintro e w10 ⟨v4, rfl, hr4, hb⟩
      obtain ⟨ao4, b4, cap4, rfl, hwa4⟩ := WArg.of_row hr4
      have HS10 := Lib.hid (HS9.out.below hb)
      have HA10 := Lib.hid (HA9.out.below hb)
      have hsm := same_any ao ao4 b5 0 b4 0 cap5 cap4 ws ws true w10 (HWA9.out.below hb) hwa4 rfl (by have := HM.out; have := HWL.out; omega) (fun i h1 h2 => ⟨⟨rfl, rfl, rfl⟩, fun _ => rfl⟩)
      rw [HM.out] at hsm
      have HSM := Lib.hid hsm
      rw [HM.out]
      clear hr4 hb hwa4 c0 c1 c2 c3 c4 hsm
      go_wp2_with fail
      with_reducible refine HSM.out.mono ?_
      rintro e w11 ⟨rfl, n5, h5⟩
      have hb5 : Below w10.heap.size w10 w11 := by rw [h5]; exact ⟨rfl, rfl, rfl, Nat.le_refl _, fun _ _ => rfl⟩
      have HS11 := Lib.hid (HS10.out.below hb5)
      have HA11 := Lib.hid (HA10.out.below hb5)
      obtain ⟨c0, c1, c2, c3, c4⟩ := st_cells HS11.out.sy.box
      obtain ⟨q0, q1, q2, q3, q4⟩ := st_cells HS11.out.xb
      clear h5 hb5
      go_wp2_with fail
      with_reducible refine (HRS2.out _ HA11.out HS11.out.sy).mono ?_
      rintro e w12 ⟨rfl, hb⟩
      have HS12 := Lib.hid (HS11.out.below hb)
      have HA12 := Lib.hid (HA11.out.below hb)
      clear hb c0 c1 c2 c3 c4 q0 q1 q2 q3 q4
      obtain ⟨c0, c1, c2, c3, c4⟩ := st_cells HS12.out.sy.box
      obtain ⟨q0, q1, q2, q3, q4⟩ := st_cells HS12.out.xb
      go_wp2_with fail
      with_reducible refine (HPS2.out _ HA12.out HS12.out.sy).mono ?_
      rintro e w13 ⟨rfl, hb⟩
      have HS13 := Lib.hid (HS12.out.below hb)
      clear hb c0 c1 c2 c3 c4 q0 q1 q2 q3 q4
      go_wp2
      go_ret
      exact ⟨rfl, HS13.out.sy.bel⟩
end Go.Proofs.YtmcfjlkjijaflaaGreatDoor
