/-
  The law TokenAny.
-/
import Derived.Test.YtalnejbpgollkaaDoorTkBytes
namespace Go.Proofs.YtalnejbpgollkaaDoor
open Go.RowKit

/-- Blanks behind a text change nothing. -/
theorem scan_behind (l : List By) (k : Nat) (h : l.length ≤ 150) : scanA (l ++ List.replicate k 32) = if 8000 < l.length + k then ([], 8000, 6) else scanA l := by
  unfold scanA
  rw [List.length_append, List.length_replicate]
  by_cases h8 : 8000 < l.length + k
  · rw [if_pos h8, if_pos h8]
  · rw [if_neg h8, if_neg h8, if_neg (by omega), scan_more k _ l 0 false (Nat.le_refl _)]
theorem sameR_refl (x : Wd) : sameR x x := ⟨rfl, rfl, rfl⟩
theorem scan_len (l : List By) (h : l.length ≤ 8000) : (scanA l).1.length ≤ 8000 := by
  have key : ∀ (n : Nat) (m : List By) (p : Nat) (adj : Bool) (ws : List Wd), m.length ≤ n → scanR m p adj = .ok ws → ws.length ≤ m.length := by
    intro n
    induction n with
    | zero =>
      intro m p adj ws hm hs
      have : m = [] := List.eq_nil_of_length_eq_zero (by omega)
      subst this
      rw [scan_nil] at hs
      cases hs
      simp
    | succ n ih =>
      intro m p adj ws hm hs
      cases m with
      | nil =>
        rw [scan_nil] at hs
        cases hs
        simp
      | cons c t =>
        simp only [List.length_cons] at hm ⊢
        cases h0 : isBl c with
        | true =>
          rw [scan_blank h0] at hs
          have := ih t _ _ ws (by omega) hs
          omega
        | false =>
          by_cases h35 : c.toNat = 35
          · rw [scan_remark h0 h35] at hs
            have hd := (List.dropWhile_sublist (l := t) not10).length_le
            have := ih _ _ _ ws (by omega) hs
            omega
          · cases hb : (!(oneR c t p).2.2 || (adj && !decide ((oneR c t p).1.1 = 3))) with
            | true =>
              rw [scan_bad h0 h35 t p adj hb] at hs
              cases hs
            | false =>
              rw [scan_word h0 h35 t p adj hb] at hs
              cases hr : scanR (t.drop (oneR c t p).2.1) (p + 1 + (oneR c t p).2.1) (!decide ((oneR c t p).1.1 = 3)) with
              | error q =>
                rw [hr] at hs
                cases hs
              | ok ws' =>
                rw [hr] at hs
                have e : ws = (oneR c t p).1 :: ws' := by
                  simp only [prepR, Except.ok.injEq, List.cons_append, List.nil_append] at hs
                  exact hs.symm
                have := ih _ _ _ ws' (by rw [List.length_drop]; omega) hr
                rw [List.length_drop] at this
                rw [e, List.length_cons]
                omega
  unfold scanA
  rw [if_neg (by omega)]
  cases hs : scanR l 0 false with
  | ok ws =>
    have := key _ l 0 false ws (Nat.le_refl _) hs
    simp only
    omega
  | error p => simp

theorem scan_list (L : List By) (w : World) : Calls Tryd.prog 11 #[.string ⟨L.toArray⟩] w (ScanPost L w) := by
  have h := scan_any ⟨L.toArray⟩ w
  have e : (⟨L.toArray⟩ : ByteArray).data.toList = L := rfl
  rw [e] at h
  exact h

set_option maxRecDepth 100000 in
set_option maxHeartbeats 3200000 in
theorem any_walk (s : ByteArray) (m : Nat) (w : World) (hs : s.size ≤ maxLen) (hm : m < 65536) (hT : TabOk w) :
    Calls Tryd.prog 4 #[.string s, .int .u16 m] w fun e w' => e = .returned (.bool true) ∧ Below w.heap.size w w' := by
  have HAW := Lib.hid (awake9 w hT)
  unfold maxLen at hs
  by_cases h150 : s.size ≤ 150
  · have HP := Lib.hid (fun W => scan_any s W)
    have HR := Lib.hid (fun W => rscan_any s W)
    have HZ := Lib.hid (Lib.size_eq s)
    have HSL := Lib.hid (scan_len s.data.toList (by rw [← Lib.size_eq]; omega))
    have HSB := Lib.hid (fun k => scan_behind s.data.toList k (by rw [← Lib.size_eq]; exact h150))
    have HCV := Lib.hid (fun W => conv_bytes W s (by unfold maxLen; omega))
    obtain ⟨l, hl⟩ : ∃ l, s.data.toList = l := ⟨_, rfl⟩
    rw [hl] at HP HR HZ HSL HSB HCV
    have hrem : ((m : Nat) : Int).tmod 8200 = ((m % 8200 : Nat) : Int) := by rw [Int.tmod_eq_emod_of_nonneg (by omega)]; omega
    obtain ⟨N, hN⟩ : ∃ N, m % 8200 = N := ⟨_, rfl⟩
    have hN2 : N < 8200 := by omega
    rw [hN] at hrem
    have d150 : decide ((150 : Int) < (s.size : Int)) = false := by simp; omega
    clear hl hT hN
    go_enter Tryd.func4, Tryd.ntmps4
    go_wp2_with fail
    with_reducible refine HAW.out.mono ?_
    rintro e w1 ⟨rfl, hb1⟩
    have HB1 := Lib.hid hb1
    clear hb1
    go_wp2_with fail
    with_reducible refine (HP.out _).mono ?_
    rintro e w2 ⟨v1, rfl, hr1, hb2⟩
    have HR1 := Lib.hid hr1
    have HB2 := Lib.hid (HB1.out.trans (hb2.mono HB1.out.size))
    clear hr1 hb2
    go_wp2_with fail
    with_reducible refine (HR.out _).mono ?_
    rintro e w3 ⟨v2, rfl, hr2, hb3⟩
    have HB3 := Lib.hid (HB2.out.trans (hb3.mono HB2.out.size))
    obtain ⟨a1, b1, cap1, rfl, hA1⟩ := WArg.of_row (row_below HR1.out hb3)
    obtain ⟨a2, b2, cap2, rfl, hA2⟩ := WArg.of_row hr2
    have HS := Lib.hid (same_any a1 a2 b1 0 b2 0 cap1 cap2 (scanA l).1 (scanA l).1 true w3 hA1 hA2 rfl HSL.out (fun i h1 h2 => ⟨sameR_refl _, fun _ => rfl⟩))
    have HA2 := Lib.hid hA2
    obtain ⟨n, hn⟩ : ∃ n, (scanA l).1.length = n := ⟨_, rfl⟩
    obtain ⟨pl, hpl⟩ : ∃ pl, (scanA l).2.1 = pl := ⟨_, rfl⟩
    obtain ⟨er, her⟩ : ∃ er, (scanA l).2.2 = er := ⟨_, rfl⟩
    have HNL := Lib.hid hn
    have HPL := Lib.hid hpl
    have HER := Lib.hid her
    rw [hn] at HS ⊢
    rw [hpl, her]
    clear hr2 hb3 hA1 hA2 hn hpl her HR1
    go_wp2_with fail
    with_reducible refine HS.out.mono ?_
    rintro e w4 ⟨rfl, d, rfl⟩
    obtain ⟨W, hW⟩ : ∃ W, w3.drewN d = W := ⟨_, rfl⟩
    have HBW : Hid (Below w.heap.size w W) := by rw [← hW]; exact below_drewN HB3.out d
    have HAW2 : Hid (WArg W a2 b2 0 (scanA l).1) := by rw [← hW]; exact HA2.out.below (below_drewN (Below.refl _ _) d)
    have HWW := Lib.hid hW
    obtain ⟨c, hcv, hrow⟩ := HCV.out W
    have HROW := Lib.hid hrow
    have HBB := Lib.hid (bytes_below W 5 s)
    obtain ⟨W5, hW5⟩ : ∃ W5, Lib.bytesWorld W 5 s = W5 := ⟨_, rfl⟩
    rw [hW5] at hcv HROW HBB
    rw [hW]
    clear hrow hW hW5 HS HCV HR HA2 HB3 HB2 HB1 HAW
    go_wp2_with fail
    go_loopw [11, 51] (fun v i' wr => ∃ i : Nat, i ≤ N ∧ i' = .int .i64 i ∧ Hid (MRow W.heap.size wr v (l ++ List.replicate i 32)) ∧ Hid (Below W.heap.size W wr)) (fun _ i' _ => N - (intOf i').toNat)
    case atStart => exact ⟨0, Nat.zero_le _, rfl, by rw [List.replicate_zero, List.append_nil]; exact HROW, HBB⟩
    case round =>
      obtain ⟨i, hi, rfl, HM, HBr⟩ := hrel
      rename World => wr
      have hle := HBr.out.size
      by_cases hlt : i < N
      · go_wp2_with (at_builtin; refine wpList_append_byte rfl _ _ rfl _ _ rfl (HM.out.alloc _) ?c1 ⟨_, 0, none⟩ 1 32 rfl ?c2 ?c3 ?_)
        case c1 => simp; omega
        case c2 => exact one_cell wr _ _
        case c3 => rw [List.length_append, List.length_replicate, ← HZ.out]; omega
        intro v' w6 hm6 hg6
        have HM6 : Hid (MRow W.heap.size w6 v' (l ++ List.replicate (i + 1) 32)) := by
          unfold Hid
          rw [List.replicate_succ']
          exact hm6
        have HB6 := Lib.hid ((HBr.out.alloc hle _).grown hg6 (by simp; omega) (fun k hk => (HM.out.lt k hk).1))
        clear hm6 hg6
        go_wp2
        go_roundw
        case rel => exact ⟨i + 1, by omega, by go_num, HM6, HB6⟩
        case measure => simp [intOf]; omega
      · obtain rfl : i = N := by omega
        have hcv2 := conv_row HM.out
        have hSC : ∀ V, Calls Tryd.prog 11 #[.string ⟨(l ++ List.replicate i 32).toArray⟩] V (ScanPost (l ++ List.replicate i 32) V) := fun V => scan_list _ V
        have hSB := HSB.out i
        rw [← HZ.out] at hSB
        obtain ⟨g, cap, _, _, rfl, _⟩ := HM.out
        have hlen : (l ++ List.replicate i 32).length = s.size + i := by rw [List.length_append, List.length_replicate, HZ.out]
        rw [hlen] at hcv2 ⊢
        have HBf := Lib.hid (HBW.out.trans (HBr.out.mono HBW.out.size))
        have HA3 := Lib.hid (HAW2.out.below HBr.out)
        obtain ⟨L2, hL2⟩ : ∃ L2, l ++ List.replicate i 32 = L2 := ⟨_, rfl⟩
        rw [hL2] at hcv2 hSC hSB
        obtain ⟨r, hr⟩ : ∃ r : ByteArray, ⟨L2.toArray⟩ = r := ⟨_, rfl⟩
        rw [hr] at hcv2 hSC
        have HSC := Lib.hid hSC
        obtain ⟨K, hK⟩ : ∃ K, s.size + i = K := ⟨_, rfl⟩
        rw [hK] at hcv2 hSB ⊢
        have hKs : K ≤ 8400 := by omega
        clear hL2 hr hSC hlen hK
        by_cases h8 : 8000 < K
        · rw [if_pos h8] at hSB
          have HSB2 := Lib.hid hSB
          clear hSB
          go_wp2_with fail
          with_reducible refine (HSC.out _).mono ?_
          rintro e w7 ⟨v7, he, hr7, hb7⟩
          rw [HSB2.out] at he hr7
          subst he
          obtain ⟨a7, cap7, rfl, _⟩ := ownsRow_shape hr7
          have HB7 := Lib.hid (HBf.out.trans (hb7.mono HBf.out.size))
          clear hr7 hb7
          go_wp2
          go_ret
          exact ⟨rfl, HB7.out⟩
        · rw [if_neg h8] at hSB
          have HSB2 := Lib.hid hSB
          clear hSB
          go_wp2_with fail
          with_reducible refine (HSC.out _).mono ?_
          rintro e w7 ⟨v7, he, hr7, hb7⟩
          rw [HSB2.out, HPL.out, HER.out] at he
          rw [HSB2.out] at hr7
          subst he
          have hB7 := HBf.out.trans (hb7.mono HBf.out.size)
          obtain ⟨a7, b7, cap7, rfl, hA7⟩ := WArg.of_row hr7
          have hS := same_any a7 a2 b7 0 b2 0 cap7 cap2 (scanA l).1 (scanA l).1 true w7 hA7 (HA3.out.below hb7) rfl HSL.out (fun i h1 h2 => ⟨sameR_refl _, fun _ => rfl⟩)
          rw [HNL.out] at hS ⊢
          have HS := Lib.hid hS
          have HB7 := Lib.hid hB7
          clear hr7 hb7 hA7 hS hB7
          go_wp2_with fail
          with_reducible refine HS.out.mono ?_
          rintro e w8 ⟨rfl, d2, rfl⟩
          go_wp2
          go_ret
          exact ⟨rfl, below_drewN HB7.out d2⟩
  · go_enter Tryd.func4, Tryd.ntmps4
    go_wp2_with fail
    with_reducible refine HAW.out.mono ?_
    rintro e w1 ⟨rfl, hb1⟩
    have HB1 := Lib.hid hb1
    clear hb1
    go_wp2
    go_ret
    exact ⟨rfl, HB1.out⟩
end Go.Proofs.YtalnejbpgollkaaDoor
