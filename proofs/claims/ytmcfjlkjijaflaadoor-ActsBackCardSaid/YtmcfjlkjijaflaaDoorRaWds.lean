/-
  The document's Words of acts. (Made by gen_rawds.py.)
-/
import Derived.Test.YtmcfjlkjijaflaaDoorRaOne
import Derived.Test.YtmcfjlkjijaflaaDoorAcWds
namespace Go.Proofs.YtmcfjlkjijaflaaDoor
open Go.RowKit

/-- The words so far. -/
structure RwW (w wr : World) (v : Value) (ws : List Wd) : Prop where
  row : WRow w.heap.size wr v ws
  bel : Below w.heap.size w wr
theorem RwW.more {w wr wr' : World} {v : Value} {ws : List Wd} (h : RwW w wr v ws) (hb : Below wr.heap.size wr wr') : RwW w wr' v ws :=
  ⟨row_below h.row hb, h.bel.trans (hb.mono h.bel.size)⟩
theorem RwW.push {w wx w4 : World} {v v' : Value} {ws : List Wd} {x : Wd} (h : RwW w wx v ws)
    (hown : w4.ownsRow w.heap.size 74 4 v' (ws.length + 1) (wdsC ws ++ wdC x)) (hg : wx.grownBy w4 v.ownBlock) : RwW w w4 v' (ws ++ [x]) := by
  have hb : Below w.heap.size wx w4 := app_below (Below.refl _ _) h.bel.size (Nat.le_refl _) h.row hg
  refine ⟨?_, h.bel.trans hb⟩
  unfold WRow
  rw [wdsC_snoc, List.length_append, List.length_singleton]
  exact hown
theorem acts_flat (L : List Ac) : (L.flatMap acW).length ≤ L.length * 6 := by
  have h := aflat_len L.zipIdx
  rw [aflat_zip, List.length_zipIdx] at h
  exact h
set_option maxRecDepth 100000 in
set_option maxHeartbeats 12800000 in
theorem rawords_any (ao : Option Addr) (b off cap : Nat) (L : List Ac) (w : World) (h : AArg w ao b off L) (hm : L.length ≤ 5000) :
    Calls Tryd.prog 25 #[.slice ao L.length cap] w (WordsAP (wordsAc L) w) := by
  obtain ⟨i0, hi0, hz0, hz1, hz2⟩ := info_parts word_info
  have HA := Lib.hid h
  have hno : ∀ i (hi : i < L.length), acMay L[i] = false → wordsAc L = ([], 1) := fun i hi hq => by
    unfold wordsAc
    rw [if_neg]
    intro hc
    have := List.all_eq_true.1 hc L[i] (List.getElem_mem hi)
    rw [hq] at this
    cases this
  have hyes : (∀ j (hj : j < L.length), acMay L[j] = true) → wordsAc L = if 4000 < L.length then ([], 6) else (L.flatMap acW, 0) := fun hq => by
    unfold wordsAc
    rw [if_pos]
    refine List.all_eq_true.2 fun x hx => ?_
    obtain ⟨j, hj, rfl⟩ := List.getElem_of_mem hx
    exact hq j hj
  obtain ⟨R, hR⟩ : ∃ R, wordsAc L = R := ⟨_, rfl⟩
  rw [hR] at hno hyes ⊢
  have hfl : ∀ i, ((L.take i).flatMap acW).length ≤ 30000 := fun i => by
    have h1 := acts_flat (L.take i)
    have h2 : (L.take i).length ≤ L.length := by rw [List.length_take]; omega
    omega
  obtain ⟨n, hn⟩ : ∃ n, L.length = n := ⟨_, rfl⟩
  have HN := Lib.hid hn
  have HNO := Lib.hid hno
  have HYES := Lib.hid hyes
  have HFL := Lib.hid hfl
  have HST : Hid (RwW w w (.slice none 0 0) []) := Lib.hid ⟨World.ownsRow_nil _ _ _ _, Below.refl _ _⟩
  rw [hn] at hm ⊢
  clear h hno hyes hR hfl hn
  go_enter Tryd.func25, Tryd.ntmps25
  go_wp2_with fail
  go_loopw [4, 5] (fun v' i' wr => ∃ (i : Nat) (ws : List Wd), i' = .int .i64 i ∧ i ≤ n ∧ Hid (RwW w wr v' ws) ∧ Hid (ws = (L.take i).flatMap acW) ∧ Hid (∀ j (hj : j < L.length), j < i → acMay L[j] = true)) (fun _ i' _ => n - (intOf i').toNat)
  case atStart => exact ⟨0, [], rfl, Nat.zero_le _, HST, Lib.hid rfl, fun j _ hj => absurd hj (Nat.not_lt_zero _)⟩
  case round =>
    obtain ⟨i, ws, rfl, hi, HW, HWS, HO⟩ := hrel
    rename World => wo
    obtain ⟨av, vcap, hv, _⟩ := ownsRow_shape HW.out.row
    subst hv
    by_cases hlt : i < n
    · have hiL : i < L.length := by rw [HN.out]; exact hlt
      have i0' : (0 : Int) ≤ i := by omega
      have i1 : (i : Int) < n := by omega
      have i2 : IntKind.i64.wrap ((i : Int) + 1) = (i : Int) + 1 := by rw [IntKind.wrap_i64]; omega
      have hA := HA.out.below HW.out.bel
      obtain ⟨rfl, hbl⟩ := hA.at_ (by omega)
      have hcells := fun V (hV : Below w.heap.size w V) => (HA.out.below hV).cells i hiL
      have HLN : Hid (ws.length ≤ 30000) := Lib.hid (by rw [HWS.out]; exact HFL.out i)
      have htk : (L.take (i + 1)).flatMap acW = (L.take i).flatMap acW ++ acW L[i] := by
        rw [List.take_succ_eq_append_getElem hiL, List.flatMap_append, List.flatMap_cons, List.flatMap_nil, List.append_nil]
      have hno := HNO.out i hiL
      have hok : ∀ h : acMay L[i] = true, ∀ j (hj : j < L.length), j < i + 1 → acMay L[j] = true := fun h j hj hji => by
        rcases Nat.lt_or_ge j i with h1 | h1
        · exact HO.out j hj h1
        · obtain rfl : j = i := by omega
          exact h
      obtain ⟨⟨k, x0, x1, x2, x3⟩, hx⟩ : ∃ x, L[i] = x := ⟨_, rfl⟩
      rw [hx] at hno hok htk
      simp only [hx] at hcells
      have HCE := Lib.hid hcells
      have HNI := Lib.hid hno
      have HOK := Lib.hid hok
      have HTK := Lib.hid htk
      have hone := fun W => raone_any k x0 x1 x2 x3 W
      obtain ⟨q, hq⟩ : ∃ q, acMay (k, x0, x1, x2, x3) = q := ⟨_, rfl⟩
      have HQ := Lib.hid hq
      simp only [hq] at hone
      have HONE := Lib.hid hone
      obtain ⟨c0, c1, c2, c3, c4⟩ := HCE.out wo HW.out.bel
      clear hA hcells hno hok htk hx hone hq
      cases q with
      | false =>
        have HR := Lib.hid (HNI.out HQ.out)
        go_wp2_with fail
        with_reducible refine (HONE.out _).mono ?_
        rintro e w2 ⟨rfl, hb⟩
        have HW2 := Lib.hid (HW.out.more hb)
        clear hb
        go_wp2
        go_ret2
        rw [HR.out]
        exact ⟨_, rfl, World.ownsRow_nil _ _ _ _, HW2.out.bel⟩
      | true =>
        have hkn : acName k ≠ [] := by
          have h := HQ.out
          simp only [acMay, Bool.and_eq_true, Bool.not_eq_true', decide_eq_false_iff_not] at h
          exact h.1
        have hk := ac_kinds hkn
        have hmy := fun W => ramany_any k (by omega) (by omega) W
        have hm4 := many_four k
        have hnm := fun W => raname_any k W
        obtain ⟨s, hs⟩ : ∃ s : ByteArray, ⟨(acName k).toArray⟩ = s := ⟨_, rfl⟩
        simp only [hs] at hnm
        have hwx : wdC (1, acName k, 0, 0) = [.int .i64 1, .string s, .int .i64 0, .int .i64 0] := by rw [← hs]; rfl
        have hW : acW (k, x0, x1, x2, x3) = (1, acName k, 0, 0) :: (((acNums (k, x0, x1, x2, x3)).take (acMany k)).map numW ++ [semiW]) := rfl
        obtain ⟨m, hm'⟩ : ∃ m, acMany k = m := ⟨_, rfl⟩
        rw [hm'] at hm4 hW
        simp only [hm'] at hmy
        obtain ⟨xw, hxw⟩ : ∃ x : Wd, (1, acName k, 0, 0) = x := ⟨_, rfl⟩
        rw [hxw] at hwx hW
        obtain ⟨F, hF⟩ : ∃ F : Nat → List Wd, (fun i => ((acNums (k, x0, x1, x2, x3)).take i).map numW) = F := ⟨_, rfl⟩
        have hFt : ∀ i, i < 4 → F (i + 1) = F i ++ [(2, [], xN x0 x1 x2 x3 i, 0)] := by
          intro i hi
          rw [← hF]
          exact nums_take k x0 x1 x2 x3 hi
        have hF0 : F 0 = [] := by rw [← hF]; rfl
        have hFm : ((acNums (k, x0, x1, x2, x3)).take m).map numW = F m := by rw [← hF]
        have hFl : ∀ i, i ≤ 4 → (F i).length = i := by
          intro i
          induction i with
          | zero => intro _; rw [hF0]; rfl
          | succ i ih => intro hi; rw [hFt i (by omega), List.length_append, ih (by omega)]; rfl
        rw [hFm] at hW
        have HMY := Lib.hid hmy
        have HNM := Lib.hid hnm
        have HGT := Lib.hid (fun (j : Nat) W => raget_any k x0 x1 x2 x3 j W)
        have HWX := Lib.hid hwx
        have HWW := Lib.hid hW
        have HFT := Lib.hid hFt
        have HFN := Lib.hid hFl
        have HF0 := Lib.hid hF0
        have HOK2 := Lib.hid (HOK.out HQ.out)
        clear hkn hk hmy hnm hs hwx hW hm' hxw hF hFt hF0 hFm hFl
        go_wp2_with fail
        with_reducible refine (HONE.out _).mono ?_
        rintro e w2 ⟨rfl, hb⟩
        have HW2 := Lib.hid (HW.out.more hb)
        clear hb c0 c1 c2 c3 c4
        obtain ⟨c0, c1, c2, c3, c4⟩ := HCE.out w2 HW2.out.bel
        go_wp2_with fail
        with_reducible refine (HNM.out _).mono ?_
        rintro e w3 ⟨rfl, hb⟩
        have HW3 := Lib.hid (HW2.out.more hb)
        clear hb c0 c1 c2 c3 c4
        go_wp2_with (at_builtin; refine wpList_append_own _ rfl _ _ 31 rfl w.heap.size 74 i0 (.agg #[.int .i64 0, .string ⟨#[]⟩, .int .i64 0, .int .i64 0]) 4 40 Tryd.underlying31 hi0 hz0 hz1 hz2 rfl (by decide) _ _ _ rfl (row_below HW3.out.row ((Below.refl _ _).alloc (Nat.le_refl _) _)) ⟨_, 0, none⟩ 1 1 [.int .i64 1, .string s, .int .i64 0, .int .i64 0] rfl rfl ?c1 ?c2 ?c3 ?c4 ?c5 ?_)
        case c1 => first | exact word_new _ _ _ _ _ _ | exact word_at (by simp) _ _ _ _ _
        case c2 => exact word_ones _ _ _ _
        case c3 => (have := HLN.out; unfold maxLen; omega)
        case c4 => (have := HLN.out; omega)
        case c5 => exact Nat.le_trans HW3.out.bel.size (by simp)
        intro v4 w4 hown hgrow _
        obtain ⟨ao4, cap4, hv4, _⟩ := ownsRow_shape hown
        subst hv4
        have HW4 := Lib.hid ((HW3.out.more ((Below.refl _ _).alloc (Nat.le_refl _) _)).push (x := xw) (by rw [HWX.out]; exact hown) hgrow)
        clear hown hgrow
        go_wp2_with fail
        go_loopw [4, 6] (fun v' j' wr => ∃ (j : Nat) (ws2 : List Wd), j' = .int .i64 j ∧ j ≤ m ∧ Hid (RwW w wr v' ws2) ∧ Hid (ws2 = ws ++ (xw :: F j))) (fun _ j' _ => m - (intOf j').toNat)
        case atStart => exact ⟨0, _, rfl, Nat.zero_le _, HW4, Lib.hid (by rw [HF0.out])⟩
        case round =>
          obtain ⟨j, ws2, rfl, hj, HW, HWS2⟩ := hrel
          rename World => wr
          have HLN2 : Hid (ws2.length ≤ 30005) := Lib.hid (by
            have h1 := HLN.out
            have h2 := HFN.out j (by omega)
            rw [HWS2.out, List.length_append, List.length_cons, h2]
            omega)
          have HLN := HLN2
          obtain ⟨av2, vcap2, hv2, _⟩ := ownsRow_shape HW.out.row
          subst hv2
          obtain ⟨c0, c1, c2, c3, c4⟩ := HCE.out wr HW.out.bel
          by_cases hjm : j < m
          · have j0 : (0 : Int) ≤ j := by omega
            have j1 : (j : Int) < m := by omega
            have j2 : IntKind.i64.wrap ((j : Int) + 1) = (j : Int) + 1 := by rw [IntKind.wrap_i64]; omega
            have hgt := fun W => HGT.out j W
            have hft := HFT.out j (by omega)
            obtain ⟨xj, hxj⟩ : ∃ xj, xN x0 x1 x2 x3 j = xj := ⟨_, rfl⟩
            rw [hxj] at hft
            simp only [hxj] at hgt
            have HGJ := Lib.hid hgt
            have HWS3 : Hid (ws2 ++ [(2, [], xj, 0)] = ws ++ (xw :: F (j + 1))) := Lib.hid (by rw [HWS2.out, hft]; simp)
            clear hgt hft hxj
            go_wp2_with fail
            with_reducible refine (HMY.out _).mono ?_
            rintro e w5 ⟨rfl, hb⟩
            have HW5 := Lib.hid (HW.out.more hb)
            clear hb c0 c1 c2 c3 c4
            obtain ⟨c0, c1, c2, c3, c4⟩ := HCE.out w5 HW5.out.bel
            go_wp2_with fail
            with_reducible refine (HGJ.out _).mono ?_
            rintro e w6 ⟨rfl, hb⟩
            have HW6 := Lib.hid (HW5.out.more hb)
            clear hb c0 c1 c2 c3 c4
            go_wp2_with (at_builtin; refine wpList_append_own _ rfl _ _ 31 rfl w.heap.size 74 i0 (.agg #[.int .i64 0, .string ⟨#[]⟩, .int .i64 0, .int .i64 0]) 4 40 Tryd.underlying31 hi0 hz0 hz1 hz2 rfl (by decide) _ _ _ rfl (row_below HW6.out.row ((Below.refl _ _).alloc (Nat.le_refl _) _)) ⟨_, 0, none⟩ 1 1 [.int .i64 2, .string ⟨#[]⟩, .int .i64 xj, .int .i64 0] rfl rfl ?c1 ?c2 ?c3 ?c4 ?c5 ?_)
            case c1 => first | exact word_new _ _ _ _ _ _ | exact word_at (by simp) _ _ _ _ _
            case c2 => exact word_ones _ _ _ _
            case c3 => (have := HLN.out; unfold maxLen; omega)
            case c4 => (have := HLN.out; omega)
            case c5 => exact Nat.le_trans HW6.out.bel.size (by simp)
            intro v7 w7 hown hgrow _
            obtain ⟨ao7, cap7, hv7, _⟩ := ownsRow_shape hown
            subst hv7
            have HW7 := Lib.hid ((HW6.out.more ((Below.refl _ _).alloc (Nat.le_refl _) _)).push (x := (2, [], xj, 0)) hown hgrow)
            clear hown hgrow
            go_wp2
            go_roundw
            case rel => exact ⟨j + 1, _, by go_num, by omega, HW7, HWS3⟩
            case measure => simp [intOf]; omega
          · obtain rfl : j = m := by omega
            have hjn : ¬ (j : Int) < j := by omega
            have HWE : Hid (ws2 ++ [semiW] = (L.take (i + 1)).flatMap acW) := Lib.hid (by rw [HWS2.out, HTK.out, HWW.out, HWS.out]; simp)
            go_wp2_with fail
            with_reducible refine (HMY.out _).mono ?_
            rintro e w5 ⟨rfl, hb⟩
            have HW5 := Lib.hid (HW.out.more hb)
            clear hb c0 c1 c2 c3 c4
            go_wp2_with (at_builtin; refine wpList_append_own _ rfl _ _ 31 rfl w.heap.size 74 i0 (.agg #[.int .i64 0, .string ⟨#[]⟩, .int .i64 0, .int .i64 0]) 4 40 Tryd.underlying31 hi0 hz0 hz1 hz2 rfl (by decide) _ _ _ rfl (row_below HW5.out.row ((Below.refl _ _).alloc (Nat.le_refl _) _)) ⟨_, 0, none⟩ 1 1 [.int .i64 3, .string ⟨#[59]⟩, .int .i64 0, .int .i64 0] rfl rfl ?c1 ?c2 ?c3 ?c4 ?c5 ?_)
            case c1 => first | exact word_new _ _ _ _ _ _ | exact word_at (by simp) _ _ _ _ _
            case c2 => exact word_ones _ _ _ _
            case c3 => (have := HLN.out; unfold maxLen; omega)
            case c4 => (have := HLN.out; omega)
            case c5 => exact Nat.le_trans HW5.out.bel.size (by simp)
            intro v7 w7 hown hgrow _
            obtain ⟨ao7, cap7, hv7, _⟩ := ownsRow_shape hown
            subst hv7
            have HW7 := Lib.hid ((HW5.out.more ((Below.refl _ _).alloc (Nat.le_refl _) _)).push (x := semiW) hown hgrow)
            clear hown hgrow
            go_wp2
            go_roundw
            case rel => exact ⟨i + 1, _, by go_num, by omega, HW7, HWE, HOK2⟩
            case measure => simp [intOf]; omega
    · have hin : i = n := by omega
      have hR := HYES.out (fun j hj => HO.out j hj (by have := HN.out; omega))
      have hws : ws = L.flatMap acW := by rw [HWS.out, List.take_of_length_le (by have := HN.out; omega)]
      rw [HN.out] at hR
      have HR := Lib.hid hR
      have HWE := Lib.hid hws
      have ni : ¬ (i : Int) < n := by omega
      clear hR hws
      by_cases h4 : 4000 < n
      · have g4 : (4000 : Int) < n := by omega
        go_wp2
        go_ret2
        rw [HR.out, if_pos h4]
        exact ⟨_, rfl, World.ownsRow_nil _ _ _ _, HW.out.bel⟩
      · have g4 : ¬ (4000 : Int) < n := by omega
        go_wp2
        go_ret2
        rw [HR.out, if_neg h4, ← HWE.out]
        exact ⟨_, rfl, HW.out.row, HW.out.bel⟩
end Go.Proofs.YtmcfjlkjijaflaaDoor
