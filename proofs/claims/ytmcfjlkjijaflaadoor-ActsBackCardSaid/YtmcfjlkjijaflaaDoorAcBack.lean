/-
  ActsBack's walk.
-/
import Derived.Test.YtmcfjlkjijaflaaDoorAcSaid
import Derived.Test.YtmcfjlkjijaflaaDoorTkSame
import Derived.Test.YtmcfjlkjijaflaaDoorPgBackM
namespace Go.Proofs.YtmcfjlkjijaflaaDoor
open Go.RowKit

theorem acw_clean (a : Ac) : ∀ x ∈ acW a, (x.1 ≠ 2 → x.2.2.1 = 0) ∧ (x.1 = 2 → x.2.1 = []) := by
  intro x hx
  unfold acW acTail at hx
  simp only [List.mem_cons, List.mem_append, List.mem_map, List.not_mem_nil, or_false] at hx
  rcases hx with rfl | ⟨n, _, rfl⟩ | rfl
  · exact ⟨fun _ => rfl, fun h => by simp at h⟩
  · exact ⟨fun h => absurd rfl h, fun _ => rfl⟩
  · exact ⟨fun _ => rfl, fun h => by simp at h⟩
theorem acw_in9 {a : Ac} (ha : acMay a = true) : ∀ x ∈ acW a, x.1 = 2 → in9 x.2.2.1 = true := by
  intro x hx h2
  unfold acW acTail at hx
  simp only [List.mem_cons, List.mem_append, List.mem_map, List.not_mem_nil, or_false] at hx
  rcases hx with rfl | ⟨n, hn, rfl⟩ | rfl
  · simp at h2
  · simp only [acMay, Bool.and_eq_true] at ha
    exact List.all_eq_true.1 ha.2.1 n (List.mem_of_mem_take hn)
  · simp at h2
theorem words_ok {A : List Ac} (h : (wordsAc A).2 = 0) : acsMay A = true ∧ A.length ≤ 4000 ∧ wordsAc A = (A.flatMap acW, 0) := by
  unfold wordsAc at h ⊢
  by_cases hm : acsMay A = true
  · rw [if_pos hm] at h ⊢
    by_cases h4 : 4000 < A.length
    · rw [if_pos h4] at h
      exact absurd h (by decide)
    · rw [if_neg h4]
      exact ⟨hm, by omega, rfl⟩
  · rw [if_neg hm] at h
    exact absurd h (by decide)
theorem may_words (A : List Ac) : actsMay A = decide ((wordsAc A).2 = 0) := by
  unfold actsMay wordsAc
  by_cases hm : acsMay A = true
  · rw [if_pos hm, hm, Bool.and_true]
    by_cases h4 : 4000 < A.length
    · rw [if_pos h4, decide_eq_false (by omega)]
      rfl
    · rw [if_neg h4, decide_eq_true (by omega)]
      rfl
  · rw [if_neg hm]
    have : acsMay A = false := by simpa using hm
    rw [this, Bool.and_false]
    rfl
theorem acts_clean {A : List Ac} : Clean (A.flatMap acW) := fun x hx => by
  obtain ⟨a, _, ha⟩ := List.mem_flatMap.1 hx
  exact acw_clean a x ha
theorem acts_in9 {A : List Ac} (h : acsMay A = true) : In9 (A.flatMap acW) := fun x hx h2 => by
  obtain ⟨a, hm, ha⟩ := List.mem_flatMap.1 hx
  exact acw_in9 (List.all_eq_true.1 h a hm) x ha h2
/-- The words of acts that may be are parsed to them. -/
theorem acts_words {A : List Ac} (h : acsMay A = true) (h4 : A.length ≤ 4000) : parseAc (A.flatMap acW) 0 = (A, ((A.flatMap acW).length : Int), 0) := by
  have h2 := acts_back h h4 (L := A.flatMap acW) (ws := A.flatMap acW) (c := 0) (Nat.zero_le _) (by simp) (sameL_refl _)
  simpa using h2
/-- So many times the same acts. -/
def allA (L : List Ac) (i : Nat) : List Ac := (List.replicate i L).flatten
theorem all_succ (L : List Ac) (i : Nat) : allA L (i + 1) = allA L i ++ L := by
  unfold allA
  rw [List.replicate_succ', List.flatten_append]
  simp
theorem all_len (L : List Ac) (i : Nat) : (allA L i).length = i * L.length := by
  induction i with
  | zero => simp [allA]
  | succ i ih => rw [all_succ, List.length_append, ih, Nat.succ_mul]
/-- The acts so far. -/
structure BaW (w wr : World) (v : Value) (M : List Ac) : Prop where
  row : ARow w.heap.size wr v M
  bel : Below w.heap.size w wr
theorem BaW.more {w wr wr' : World} {v : Value} {M : List Ac} (h : BaW w wr v M) (hb : Below wr.heap.size wr wr') : BaW w wr' v M :=
  ⟨row_below h.row hb, h.bel.trans (hb.mono h.bel.size)⟩
theorem BaW.push {w wx w4 : World} {v v' : Value} {M L : List Ac} (h : BaW w wx v M) (hown : w4.ownsRow 0 69 5 v' (M.length + L.length) (acsC M ++ acsC L)) (hg : wx.grownBy w4 v.ownBlock) (hnew : ∀ g ∈ v'.ownBlock.toList, g ∈ v.ownBlock.toList ∨ wx.heap.size ≤ g) : BaW w w4 v' (M ++ L) := by
  refine ⟨?_, h.bel.trans (app_below (Below.refl _ _) h.bel.size (Nat.le_refl _) h.row hg)⟩
  unfold ARow
  rw [List.length_append, acsC_app]
  refine arow_up hown (fun g hx => ?_)
  rcases hnew g hx with h1 | h1
  · exact (h.row.lt g (by simpa using h1)).1
  · exact Nat.le_trans h.bel.size h1
set_option maxRecDepth 100000 in
set_option maxHeartbeats 12800000 in
theorem actsback_walk (ao : Option Addr) (b off cap : Nat) (L : List Ac) (t : Nat) (w : World) (h : AArg w ao b off L) (hnil : ao = none → cap = 0) (ht : t ≤ 255) (hT : TabOk w) :
    Calls Tryd.prog 6 #[.slice ao L.length cap, .int .u8 (t : Nat)] w fun e w' => e = .returned (.bool true) ∧ Below w.heap.size w w' := by
  have HAW := Lib.hid (awake13 w hT)
  have HT := Lib.hid hT
  have HA := Lib.hid h
  have hnn : ao = none → L.length = 0 ∧ cap = 0 := by
    intro hn
    refine ⟨?_, hnil hn⟩
    rcases Nat.eq_zero_or_pos L.length with h0 | h0
    · exact h0
    · have hx := (h.at_ h0).1
      rw [hn] at hx
      cases hx
  have HNIL := Lib.hid hnn
  have hcs : ∀ V, Below w.heap.size w V → ∀ ad, ao = some ad → ∀ j u, (acsC L)[j]? = some u → V.cell? (ad.add j) = some u := by
    intro V hV ad had j u hu
    have hj := (List.getElem?_eq_some_iff.1 hu).1
    rw [acsC_len] at hj
    have hx := (h.at_ (by omega)).1
    rw [had] at hx
    cases hx
    exact aarg_cells (h.below hV) j u hu
  have HCS := Lib.hid hcs
  have HCL := Lib.hid (acsC_len L)
  obtain ⟨n, hn⟩ : ∃ n, L.length = n := ⟨_, rfl⟩
  have HN := Lib.hid hn
  rw [hn] at HNIL HCL ⊢
  obtain ⟨i0, hi0, hz0, hz1, hz2⟩ := info_parts act_info
  clear hT h hnil hn hnn hcs
  by_cases h40 : n ≤ 40
  · have g1 : ¬ (40 : Int) < n := by omega
    go_enter Tryd.func6, Tryd.ntmps6
    go_wp2_with fail
    with_reducible refine HAW.out.mono ?_
    rintro e w1 ⟨rfl, hb1⟩
    have HB1 := Lib.hid hb1
    clear hb1
    go_wp2_with fail
    obtain ⟨T, hT1, hT2⟩ : ∃ T : Nat, (1 + (t : Int) % 103) = (T : Int) ∧ T ≤ 103 := ⟨1 + t % 103, by omega, by omega⟩
    rw [hT1]
    clear hT1
    go_loopw [5, 26] (fun v' i' wr => ∃ i : Nat, i' = .int .i64 i ∧ i ≤ T ∧ Hid (BaW w wr v' (allA L i))) (fun _ i' _ => T - (intOf i').toNat)
    case atStart => exact ⟨0, rfl, Nat.zero_le _, Lib.hid ⟨World.ownsRow_nil _ _ _ _, HB1.out⟩⟩
    case round =>
      obtain ⟨i, rfl, hi, HW⟩ := hrel
      have hal := all_len L i
      rw [HN.out] at hal
      have hml : i * n ≤ 103 * 40 := Nat.mul_le_mul (by omega) h40
      have HLN : Hid ((allA L i).length ≤ 4120) := Lib.hid (by omega)
      clear hal hml
      by_cases hlt : i < T
      · have i1 : (i : Int) < T := by omega
        have i2 : IntKind.i64.wrap ((i : Int) + 1) = (i : Int) + 1 := by rw [IntKind.wrap_i64]; omega
        obtain ⟨av, vcap, hv, _⟩ := ownsRow_shape HW.out.row
        subst hv
        have HRO := Lib.hid (arow_up0 HW.out.row)
        have HCV := Lib.hid (HCS.out _ HW.out.bel)
        go_wp2_with (at_builtin; refine wpList_append_any _ rfl _ _ 52 rfl 69 i0 (.agg #[.int .i64 0, .int .i64 0, .int .i64 0, .int .i64 0, .int .i64 0]) 5 40 Tryd.underlying52 hi0 hz0 hz1 hz2 rfl (by decide) _ _ _ rfl HRO.out ao n cap (acsC L) rfl HCL.out HNIL.out HCV.out (acsC_one L) (by have := HLN.out; unfold maxLen; omega) (by have := HLN.out; omega) ?_; intro a2 c2 w2 hown hgrow hnew)
        have HP := Lib.hid (HW.out.push (L := L) (by rw [HN.out]; exact hown) hgrow hnew)
        rw [← all_succ] at HP
        clear hown hgrow hnew
        go_wp2
        go_roundw
        case rel => exact ⟨i + 1, by go_num, by omega, HP⟩
        case measure => simp [intOf]; omega
      · obtain rfl : i = T := by omega
        obtain ⟨aoA, bA, capA, hvA, haA⟩ := AArg.of_row HW.out.row
        subst hvA
        have HBW := Lib.hid HW.out.bel
        obtain ⟨A, hAA⟩ : ∃ A, allA L i = A := ⟨_, rfl⟩
        rw [hAA] at haA HLN ⊢
        have HAA := Lib.hid haA
        have hwl := words_len13 A
        have hmw := may_words A
        have hok := fun h => words_ok (A := A) h
        have HWD := fun V (hV : AArg V aoA bA 0 A) => awords_any aoA bA 0 capA A V hV (by have := HLN.out; omega)
        have HRW := fun V (hV : AArg V aoA bA 0 A) => rawords_any aoA bA 0 capA A V hV (by have := HLN.out; omega)
        have HPR := fun V (hV : AArg V aoA bA 0 A) hT => aprint_any aoA bA 0 capA A V hV (by have := HLN.out; omega) hT
        have HRP := fun V (hV : AArg V aoA bA 0 A) => raprint_any aoA bA 0 capA A V hV (by have := HLN.out; omega)
        have HMY := fun V (hV : AArg V aoA bA 0 A) => amay_all aoA bA 0 capA A V hV (by have := HLN.out; omega)
        unfold WordsAP at HWD HRW
        unfold PrintP at HPR HRP
        rw [hmw] at HMY
        obtain ⟨⟨W, we⟩, hW⟩ : ∃ x, wordsAc A = x := ⟨_, rfl⟩
        rw [hW] at hwl HWD HRW hok HMY
        obtain ⟨⟨pt, pe⟩, hpt⟩ : ∃ x, printAc A = x := ⟨_, rfl⟩
        rw [hpt] at HPR HRP
        obtain ⟨sp, hsp⟩ : ∃ sp : ByteArray, ⟨pt.toArray⟩ = sp := ⟨_, rfl⟩
        simp only [hsp] at HPR HRP
        simp only at hwl HWD HRW hok HMY
        have hspp : (sp.toList != sp.toList) = false := by simp
        have hpe : (pe != pe) = false := by simp
        have hwe : (we != we) = false := by simp
        obtain ⟨N, hN⟩ : ∃ N, A.length = N := ⟨_, rfl⟩
        rw [hN] at HLN
        have HNN := Lib.hid hN
        rw [hN] at HWD HRW HPR HRP HMY ⊢
        have HWD := Lib.hid HWD
        have HRW := Lib.hid HRW
        have HPR := Lib.hid HPR
        have HRP := Lib.hid HRP
        have HMY := Lib.hid HMY
        have HOK := Lib.hid hok
        have HWL := Lib.hid hwl
        have ni : ¬ (i : Int) < i := by omega
        clear haA hAA hwl hmw hok hW hpt hsp hN HW
        go_wp2_with fail
        with_reducible refine (HWD.out _ HAA.out).mono ?_
        rintro e w2 ⟨v2, rfl, hr2, hb⟩
        obtain ⟨ao2, b2, cap2, rfl, hwa2⟩ := WArg.of_row hr2
        have HWA2 := Lib.hid hwa2
        have HA2 := Lib.hid (HAA.out.below hb)
        have HB2 := Lib.hid (HBW.out.trans (hb.mono HBW.out.size))
        obtain ⟨wl, hwl2⟩ : ∃ wl, W.length = wl := ⟨_, rfl⟩
        rw [hwl2] at HWL ⊢
        have HWLN := Lib.hid hwl2
        clear hr2 hb hwa2 hwl2
        go_wp2_with fail
        with_reducible refine (HRW.out _ HA2.out).mono ?_
        rintro e w3 ⟨v3, rfl, hr3, hb⟩
        obtain ⟨ao3, b3, cap3, rfl, hwa3⟩ := WArg.of_row hr3
        have HWA3 := Lib.hid hwa3
        have HWB3 := Lib.hid (HWA2.out.below hb)
        have HA3 := Lib.hid (HA2.out.below hb)
        have HB3 := Lib.hid (HB2.out.trans (hb.mono HB2.out.size))
        rw [HWLN.out]
        clear hr3 hb hwa3
        go_wp2_with fail
        with_reducible refine (HPR.out _ HA3.out (HT.out.below HB3.out)).mono ?_
        rintro e w4 ⟨rfl, hb⟩
        have HWA4 := Lib.hid (HWA3.out.below hb)
        have HWB4 := Lib.hid (HWB3.out.below hb)
        have HA4 := Lib.hid (HA3.out.below hb)
        have HB4 := Lib.hid (HB3.out.trans (hb.mono HB3.out.size))
        clear hb
        go_wp2_with fail
        with_reducible refine (HRP.out _ HA4.out).mono ?_
        rintro e w5 ⟨rfl, hb⟩
        have HWA5 := Lib.hid (HWA4.out.below hb)
        have HWB5 := Lib.hid (HWB4.out.below hb)
        have HA5 := Lib.hid (HA4.out.below hb)
        have HB5 := Lib.hid (HB4.out.trans (hb.mono HB4.out.size))
        have hsm := same_any ao2 ao3 b2 0 b3 0 cap2 cap3 W W true w5 HWB5.out HWA5.out rfl (by have := HWLN.out; have := HWL.out; omega) (fun i h1 h2 => ⟨⟨rfl, rfl, rfl⟩, fun _ => rfl⟩)
        rw [HWLN.out] at hsm
        have HSM := Lib.hid hsm
        clear hb hsm
        go_wp2_with fail
        with_reducible refine HSM.out.mono ?_
        rintro e w6 ⟨rfl, n6, h6⟩
        have hb : Below w5.heap.size w5 w6 := by rw [h6]; exact below_drewN (Below.refl _ _) _
        have HWB6 := Lib.hid (HWB5.out.below hb)
        have HA6 := Lib.hid (HA5.out.below hb)
        have HB6 := Lib.hid (HB5.out.trans (hb.mono HB5.out.size))
        clear hb h6
        by_cases h0 : we = 0
        · obtain ⟨k1, k2, k3⟩ := HOK.out h0
          subst h0
          simp only [Prod.mk.injEq, and_true] at k3
          subst k3
          have hpa := aparse_any ao2 b2 0 cap2 (A.flatMap acW) 0
          have hpv := acts_words k1 k2
          have HPA := Lib.hid (fun V hV => by
            have hx := hpa V hV (by have := HWLN.out; have := HWL.out; omega) acts_clean (acts_in9 k1)
            unfold ParseAP at hx
            rw [hpv, HWLN.out] at hx
            exact hx)
          have hmy2 := HMY.out w6 HA6.out
          have HMY2 := Lib.hid hmy2
          have hwll : ((wl : Int) == wl) = true := by simp
          clear hpa hpv k1 k2 hmy2
          go_wp2_with fail
          with_reducible refine HMY2.out.mono ?_
          rintro e w7 ⟨rfl, hb⟩
          have HWB7 := Lib.hid (HWB6.out.below hb)
          have HA7 := Lib.hid (HA6.out.below hb)
          have HB7 := Lib.hid (HB6.out.trans (hb.mono HB6.out.size))
          clear hb
          go_wp2_with fail
          with_reducible refine (HPA.out _ HWB7.out).mono ?_
          rintro e w8 ⟨v8, rfl, hr8, hb⟩
          obtain ⟨ao8, b8, cap8, rfl, ha8⟩ := AArg.of_row hr8
          have HA8 := Lib.hid (HA7.out.below hb)
          have HB8 := Lib.hid (HB7.out.trans (hb.mono HB7.out.size))
          simp only at ha8 ⊢
          have hrs := rasame_any ao8 aoA b8 0 bA 0 cap8 capA A w8 ha8 HA8.out (by have := HNN.out; have := HLN.out; omega)
          rw [HNN.out] at hrs ⊢
          have HRS := Lib.hid hrs
          clear hr8 hb ha8 hrs
          go_wp2_with fail
          with_reducible refine HRS.out.mono ?_
          rintro e w9 ⟨rfl, n9, h9⟩
          have HB9 : Hid (Below w.heap.size w w9) := Lib.hid (by rw [h9]; exact below_drewN HB8.out _)
          clear h9
          go_wp2
          go_ret
          exact ⟨rfl, HB9.out⟩
        · have hmy2 := HMY.out w6 HA6.out
          rw [decide_eq_false h0] at hmy2
          have HMY2 := Lib.hid hmy2
          have hwb : (we == 0) = false := by simpa using h0
          have hwb2 : (we != 0) = true := by simpa using h0
          clear hmy2 h0
          go_wp2_with fail
          with_reducible refine HMY2.out.mono ?_
          rintro e w7 ⟨rfl, hb⟩
          have HB7 := Lib.hid (HB6.out.trans (hb.mono HB6.out.size))
          clear hb
          go_wp2
          go_ret
          exact ⟨rfl, HB7.out⟩
  · have g1 : (40 : Int) < n := by omega
    go_enter Tryd.func6, Tryd.ntmps6
    go_wp2_with fail
    with_reducible refine HAW.out.mono ?_
    rintro e w1 ⟨rfl, hb1⟩
    have HB1 := Lib.hid hb1
    clear hb1
    go_wp2
    go_ret
    exact ⟨rfl, HB1.out⟩
end Go.Proofs.YtmcfjlkjijaflaaDoor
