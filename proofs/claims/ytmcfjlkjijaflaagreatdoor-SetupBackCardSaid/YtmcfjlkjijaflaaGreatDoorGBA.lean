/-
  The document's digits of a number.
  The document's Text.
  The document's Join.
  Same, where the words are the same.
-/
import Derived.Test.YtmcfjlkjijaflaaGreatDoorGAC
import Derived.Deep.RegionWith
import Derived.Test.YtmcfjlkjijaflaaGreatDoorGBD
import Derived.Deep.QuietTactic
import Derived.BigQuiet

/- The document's digits of a number. -/
namespace Go.Proofs.YtmcfjlkjijaflaaGreatDoor
open Go.RowKit

/-- One byte as a text. -/
theorem conv_one (W : World) (B : Nat) (d : Nat) (hd : d < 10) (h : W.cell? ⟨B, 0, none⟩ = some (.int .u8 (48 + (d : Int)))) :
    (convert 90 9 (.slice (some ⟨B, 0, none⟩) 1 1)).run Tryz.prog W = .ok (.string ⟨[UInt8.ofNat (48 + d)].toArray⟩) W := by
  refine run_convert_bytes_back W _ _ 5 ⟨B, 0, none⟩ 1 [UInt8.ofNat (48 + d)] Tryz.underlying90 Tryz.underlying5 Tryz.underlying9 fun j hj => ?_
  obtain rfl : j = 0 := by simpa using hj
  rw [Addr.add_lit, h]
  simp only [List.getElem_cons_zero, digit_nat hd]
  rfl
set_option maxRecDepth 100000 in
set_option maxHeartbeats 1600000 in
theorem rdig_small (n : Nat) (hn : n < 10) (w : World) : Calls Tryz.prog 91 #[.int .i64 n] w fun e w' => e = .returned (.string ⟨(digitsR n).toArray⟩) ∧ Below w.heap.size w w' := by
  rw [digits_small hn]
  have hw : IntKind.u8.wrap (48 + (n : Int)) = 48 + (n : Int) := by rw [IntKind.wrap_u8]; omega
  have hcv := conv_one (w.alloc (.cells #[.int .u8 (48 + (n : Int))] 5)) w.heap.size n hn (one_cell w _ _)
  obtain ⟨r, hr⟩ : ∃ r : ByteArray, ⟨[UInt8.ofNat (48 + n)].toArray⟩ = r := ⟨_, rfl⟩
  rw [hr] at hcv ⊢
  clear hr
  go_enter Tryz.func91, Tryz.ntmps91
  go_wp2
  go_ret
  exact ⟨rfl, (Below.refl _ _).alloc (Nat.le_refl _) _⟩
set_option maxRecDepth 100000 in
set_option maxHeartbeats 3200000 in
theorem rdig_great (n : Nat) (hn : ¬ n < 10) (h9 : n ≤ 999999999) (ih : ∀ w, Calls Tryz.prog 91 #[.int .i64 (n / 10 : Nat)] w fun e w' => e = .returned (.string ⟨(digitsR (n / 10)).toArray⟩) ∧ Below w.heap.size w w') (w : World) :
    Calls Tryz.prog 91 #[.int .i64 n] w fun e w' => e = .returned (.string ⟨(digitsR n).toArray⟩) ∧ Below w.heap.size w w' := by
  rw [digits_great hn]
  have hm := Nat.mod_lt n (show 0 < 10 by omega)
  have hlen := digits_len 8 (n / 10) (by omega)
  have hq : ((n / 10 : Nat) : Int) = (n : Int) / 10 := by omega
  have hr : ((n % 10 : Nat) : Int) = (n : Int) % 10 := by omega
  have hcv := fun W B => conv_one W B (n % 10) hm
  have hadd := fun W => str_add (digitsR (n / 10)) [UInt8.ofNat (48 + n % 10)] (by simp; omega) W
  obtain ⟨r, hr1⟩ : ∃ r : ByteArray, ⟨[UInt8.ofNat (48 + n % 10)].toArray⟩ = r := ⟨_, rfl⟩
  obtain ⟨x, hx1⟩ : ∃ x : ByteArray, ⟨(digitsR (n / 10)).toArray⟩ = x := ⟨_, rfl⟩
  obtain ⟨y, hy1⟩ : ∃ y : ByteArray, ⟨(digitsR (n / 10) ++ [UInt8.ofNat (48 + n % 10)]).toArray⟩ = y := ⟨_, rfl⟩
  rw [hr1] at hcv hadd
  rw [hx1] at hadd ih
  rw [hy1] at hadd ⊢
  rw [hq] at ih
  rw [hr] at hcv
  have IH := Lib.hid ih
  have b1 : 0 ≤ (n : Int) % 10 := by omega
  have b2 : (n : Int) % 10 ≤ 9 := by omega
  have hw : IntKind.u8.wrap (48 + (n : Int) % 10) = 48 + (n : Int) % 10 := by rw [IntKind.wrap_u8]; omega
  have hw2 : IntKind.i64.wrap (48 + (n : Int) % 10) = 48 + (n : Int) % 10 := IntWalk.i64_in _ (by omega)
  have hw3 : IntKind.i64.wrap ((n : Int) / 10) = (n : Int) / 10 := IntWalk.i64_in _ (by omega)
  have ht : (n : Int).tmod 10 = (n : Int) % 10 := Int.tmod_eq_emod_of_nonneg (by omega)
  have hn10 : decide ((n : Int) < 10) = false := by simp; omega
  clear hr1 hx1 hy1 hq hr hm hlen ih
  go_enter Tryz.func91, Tryz.ntmps91
  go_wp2_with fail
  go_region_with ((go_at_call 91; with_reducible refine (IH.out _).mono ?_; rintro e w1 ⟨rfl, hb⟩; obtain ⟨hc, hf⟩ := bcell hb))
  all_goals
    simp only [List.getElem_toArray, List.getElem_cons_succ, List.getElem_cons_zero, Act.put, List.setIfInBounds_toArray]
    simp only [List.set_cons_succ, List.set_cons_zero]
    have HB := Lib.hid hb
    clear hb hc hf
    go_wp2
    go_ret
    refine ⟨rfl, ?_⟩
    first
      | exact ((Below.refl _ w).drew.trans HB.out).alloc HB.out.size _
      | exact ((Below.refl _ w).drew.alloc (Nat.le_refl _) _).trans (HB.out.mono (by simp))
theorem rdigits_any : ∀ (n : Nat), n ≤ 999999999 → ∀ w : World, Calls Tryz.prog 91 #[.int .i64 n] w fun e w' => e = .returned (.string ⟨(digitsR n).toArray⟩) ∧ Below w.heap.size w w'
  | n, h9, w => by
    by_cases hn : n < 10
    · exact rdig_small n hn w
    · exact rdig_great n hn h9 (fun W => rdigits_any (n / 10) (by omega) W) w
termination_by n => n
decreasing_by omega
end Go.Proofs.YtmcfjlkjijaflaaGreatDoor

/- The document's Text. -/
namespace Go.Proofs.YtmcfjlkjijaflaaGreatDoor
open Go.RowKit

set_option maxHeartbeats 1600000 in
theorem rtext_num (tx : ByteArray) (n p : Int) (w : World) :
    Calls Tryz.prog 49 #[.agg #[.int .i64 2, .string tx, .int .i64 n, .int .i64 p]] w fun e w' => e = .returned (if (tx.data.toList == [] && decide (0 ≤ n) && decide (n ≤ 999999999)) = true then .tuple #[.string ⟨(digitsR n.toNat).toArray⟩, .int .i64 0] else .tuple #[.string ⟨#[]⟩, .int .i64 1]) ∧ Below w.heap.size w w' := by
  rw [← Lib.toList_data]
  by_cases hx : tx.toList = []
  · by_cases h0 : 0 ≤ n
    · by_cases h9 : n ≤ 999999999
      · rw [if_pos (by simp [hx, h0, h9])]
        obtain ⟨m, rfl⟩ := Int.eq_ofNat_of_zero_le h0
        rw [Int.toNat_natCast]
        have HI := Lib.hid (rdigits_any m (by omega))
        obtain ⟨r, hr⟩ : ∃ r : ByteArray, ⟨(digitsR m).toArray⟩ = r := ⟨_, rfl⟩
        rw [hr] at HI ⊢
        clear hr
        go_enter Tryz.func49, Tryz.ntmps49
        go_wp2_with fail
        with_reducible refine (HI.out _).mono ?_
        rintro e w2 ⟨rfl, hb⟩
        have HB := Lib.hid hb
        clear hb
        go_wp2
        go_ret2
        exact ⟨rfl, ((Below.refl _ _).alloc (Nat.le_refl _) _).trans (HB.out.mono (by simp))⟩
      · rw [if_neg (by simp [h9])]
        go_enter Tryz.func49, Tryz.ntmps49
        go_wp2
        go_ret2
        exact ⟨rfl, (Below.refl _ _).alloc (Nat.le_refl _) _⟩
    · rw [if_neg (by simp [h0])]
      go_enter Tryz.func49, Tryz.ntmps49
      go_wp2
      go_ret2
      exact ⟨rfl, (Below.refl _ _).alloc (Nat.le_refl _) _⟩
  · rw [if_neg (by simp [hx])]
    go_enter Tryz.func49, Tryz.ntmps49
    go_wp2
    go_ret2
    exact ⟨rfl, (Below.refl _ _).alloc (Nat.le_refl _) _⟩
set_option maxHeartbeats 1600000 in
theorem rtext_none (k : Int) (tx : ByteArray) (n p : Int) (w : World) (h2 : ¬ k = 2) (h : ¬ n = 0 ∨ tx.toList = [] ∨ (¬ k = 1 ∧ ¬ k = 3)) :
    Calls Tryz.prog 49 #[.agg #[.int .i64 k, .string tx, .int .i64 n, .int .i64 p]] w fun e w' => e = .returned (.tuple #[.string ⟨#[]⟩, .int .i64 1]) ∧ Below w.heap.size w w' := by
  have d2 : (k == 2) = false := by simpa using h2
  by_cases hn : n = 0
  · subst hn
    by_cases hx : tx.toList = []
    · clear h h2
      go_enter Tryz.func49, Tryz.ntmps49
      go_wp2
      go_ret2
      exact ⟨rfl, (Below.refl _ _).alloc (Nat.le_refl _) _⟩
    · have hk : ¬ k = 1 ∧ ¬ k = 3 := by simpa [hx] using h
      have d1 : (k != 1) = true := by simpa using hk.1
      have d3 : (k != 3) = true := by simpa using hk.2
      clear h h2 hk
      go_enter Tryz.func49, Tryz.ntmps49
      go_wp2
      go_ret2
      exact ⟨rfl, (Below.refl _ _).alloc (Nat.le_refl _) _⟩
  · have dn : (n != 0) = true := by simpa using hn
    clear h h2 hn
    go_enter Tryz.func49, Tryz.ntmps49
    go_wp2
    go_ret2
    exact ⟨rfl, (Below.refl _ _).alloc (Nat.le_refl _) _⟩
set_option maxHeartbeats 3200000 in
theorem rtext_word (k : Int) (tx : ByteArray) (p : Int) (w : World) (hk : k = 1 ∨ k = 3) (c : By) (t : List By) (hx : tx.data.toList = c :: t) (hs : tx.size ≤ 140737488355328) :
    Calls Tryz.prog 49 #[.agg #[.int .i64 k, .string tx, .int .i64 0, .int .i64 p]] w fun e w' => e = .returned (if (oneR c t 0).2.2 = true ∧ (oneR c t 0).2.1 = t.length ∧ (oneR c t 0).1.1 = k then .tuple #[.string tx, .int .i64 0] else .tuple #[.string ⟨#[]⟩, .int .i64 1]) ∧ Below w.heap.size w w' := by
  have hz : tx.size = t.length + 1 := by rw [Lib.size_eq, hx]; rfl
  have HC := Lib.hid (fun W => one_any tx 0 c t W (by omega) hs (by rw [List.drop_zero]; exact hx))
  obtain ⟨⟨⟨a, b, cc, d⟩, m, ok⟩, ho⟩ : ∃ x, oneR c t 0 = x := ⟨_, rfl⟩
  rw [ho] at HC ⊢
  simp only [wdV] at HC
  rw [show ((0 : Nat) : Int) = 0 from rfl] at HC
  obtain ⟨ty, hty⟩ : ∃ ty : ByteArray, ⟨b.toArray⟩ = ty := ⟨_, rfl⟩
  rw [hty] at HC
  obtain ⟨T, hT⟩ : ∃ T, 0 + 1 + m = T := ⟨_, rfl⟩
  rw [hT] at HC
  have hne : ¬ tx.toList = [] := by rw [Lib.toList_data, hx]; simp
  have hne2 : tx.toList.isEmpty = false := by simpa using hne
  have hm : m = t.length ↔ T = tx.size := by omega
  have HM := Lib.hid hm
  have d2 : (k == 2) = false := by rcases hk with rfl | rfl <;> rfl
  have dk : (k != 1) = true → (k != 3) = false := by rcases hk with rfl | rfl <;> decide
  clear ho hty hT hm hx hs hz hk
  cases ok with
  | false =>
    rw [if_neg (fun h => absurd h.1 (by simp))]
    cases d1 : (k != 1)
    case' true => have d3 := dk d1
    all_goals
      clear dk
      go_enter Tryz.func49, Tryz.ntmps49
      go_wp2_with fail
      with_reducible refine (HC.out _).mono ?_
      rintro e w2 ⟨rfl, hb⟩
      obtain ⟨hc, hf⟩ := bcell hb
      have HB := Lib.hid hb
      have hsz := hb.size
      simp at hsz
      have hlt : w.heap.size < w2.heap.size := by omega
      have hck : w2.cell? ⟨w.heap.size, 0, none⟩ = some (.int .i64 k) := by
        rw [hc _ _ (by simp)]
        simp
      clear hb hc hf
      go_wp2
      go_ret2
      exact ⟨rfl, (((Below.refl _ _).alloc (Nat.le_refl _) _).trans (HB.out.mono (by simp))).alloc (by omega) _⟩
  | true =>
    by_cases hmt : m = t.length
    · have hTz := HM.out.1 hmt
      by_cases hak : a = k
      · rw [if_pos ⟨rfl, hmt, hak⟩]
        have e1 : ((T : Int) != (tx.size : Int)) = false := by simp [hTz]
        have e2 : (a != k) = false := by simp [hak]
        clear hTz hak hmt
        cases d1 : (k != 1)
        case' true => have d3 := dk d1
        all_goals
          clear dk
          go_enter Tryz.func49, Tryz.ntmps49
          go_wp2_with fail
          with_reducible refine (HC.out _).mono ?_
          rintro e w2 ⟨rfl, hb⟩
          obtain ⟨hc, hf⟩ := bcell hb
          have HB := Lib.hid hb
          have hsz := hb.size
          simp at hsz
          have hlt : w.heap.size < w2.heap.size := by omega
          have hck : w2.cell? ⟨w.heap.size, 0, none⟩ = some (.int .i64 k) := by
            rw [hc _ _ (by simp)]
            simp
          clear hb hc hf
          go_wp2
          go_ret2
          exact ⟨rfl, (((Below.refl _ _).alloc (Nat.le_refl _) _).trans (HB.out.mono (by simp))).alloc (by omega) _⟩
      · rw [if_neg (fun h => hak h.2.2)]
        have e1 : ((T : Int) != (tx.size : Int)) = false := by simp [hTz]
        have e2 : (a != k) = true := by simp [hak]
        clear hTz hak hmt
        cases d1 : (k != 1)
        case' true => have d3 := dk d1
        all_goals
          clear dk
          go_enter Tryz.func49, Tryz.ntmps49
          go_wp2_with fail
          with_reducible refine (HC.out _).mono ?_
          rintro e w2 ⟨rfl, hb⟩
          obtain ⟨hc, hf⟩ := bcell hb
          have HB := Lib.hid hb
          have hsz := hb.size
          simp at hsz
          have hlt : w.heap.size < w2.heap.size := by omega
          have hck : w2.cell? ⟨w.heap.size, 0, none⟩ = some (.int .i64 k) := by
            rw [hc _ _ (by simp)]
            simp
          clear hb hc hf
          go_wp2
          go_ret2
          exact ⟨rfl, (((Below.refl _ _).alloc (Nat.le_refl _) _).trans (HB.out.mono (by simp))).alloc (by omega) _⟩
    · rw [if_neg (fun h => hmt h.2.1)]
      have e1 : ((T : Int) != (tx.size : Int)) = true := by
        rw [bne_iff_ne]
        intro h
        exact hmt (HM.out.2 (by omega))
      clear hmt
      cases d1 : (k != 1)
      case' true => have d3 := dk d1
      all_goals
        clear dk
        go_enter Tryz.func49, Tryz.ntmps49
        go_wp2_with fail
        with_reducible refine (HC.out _).mono ?_
        rintro e w2 ⟨rfl, hb⟩
        obtain ⟨hc, hf⟩ := bcell hb
        have HB := Lib.hid hb
        have hsz := hb.size
        simp at hsz
        have hlt : w.heap.size < w2.heap.size := by omega
        have hck : w2.cell? ⟨w.heap.size, 0, none⟩ = some (.int .i64 k) := by
          rw [hc _ _ (by simp)]
          simp
        clear hb hc hf
        go_wp2
        go_ret2
        exact ⟨rfl, (((Below.refl _ _).alloc (Nat.le_refl _) _).trans (HB.out.mono (by simp))).alloc (by omega) _⟩
theorem rtext_any (k : Int) (tx : ByteArray) (n p : Int) (w : World) (hs : tx.size ≤ 140737488355328) :
    Calls Tryz.prog 49 #[.agg #[.int .i64 k, .string tx, .int .i64 n, .int .i64 p]] w fun e w' => e = .returned (.tuple #[.string ⟨(textA (k, tx.data.toList, n, p)).1.toArray⟩, .int .i64 (textA (k, tx.data.toList, n, p)).2]) ∧ Below w.heap.size w w' := by
  by_cases h2 : k = 2
  · subst h2
    rw [← text_eq]
    have e : textP (2, tx.data.toList, n, p) = if (tx.data.toList == [] && decide (0 ≤ n) && decide (n ≤ 999999999)) = true then (digitsR n.toNat, 0) else ([], 1) := by
      unfold textP
      rw [if_neg (show ¬ (2 : Int) = 1 by decide), if_pos rfl]
    rw [e]
    have h := rtext_num tx n p w
    split
    · next hc => rw [if_pos hc] at h; exact h
    · next hc => rw [if_neg hc] at h; exact h
  · by_cases hn : n = 0
    · subst hn
      cases hx : tx.data.toList with
      | nil =>
        have e : textA (k, [], 0, p) = ([], 1) := by unfold textA textR; simp [h2]
        rw [e]
        exact rtext_none k tx 0 p w h2 (.inr (.inl (by rw [Lib.toList_data]; exact hx)))
      | cons c t =>
        by_cases hk : k = 1 ∨ k = 3
        · have h := rtext_word k tx p w hk c t hx hs
          by_cases hc : (oneR c t 0).2.2 = true ∧ (oneR c t 0).2.1 = t.length ∧ (oneR c t 0).1.1 = k
          · have e : textA (k, c :: t, 0, p) = (c :: t, 0) := by
              unfold textA textR
              simp only
              rw [if_neg h2, if_neg (by simp), if_pos ⟨hk, hc⟩]
            rw [if_pos hc] at h
            rw [e, ← hx, Lib.mk_data]
            exact h
          · have e : textA (k, c :: t, 0, p) = ([], 1) := by
              unfold textA textR
              simp only
              rw [if_neg h2, if_neg (by simp), if_neg (fun h => hc h.2)]
            rw [if_neg hc] at h
            rw [e]
            exact h
        · have e : textA (k, c :: t, 0, p) = ([], 1) := by
            unfold textA textR
            simp only
            rw [if_neg h2, if_neg (by simp), if_neg (fun h => hk h.1)]
          rw [e]
          exact rtext_none k tx 0 p w h2 (.inr (.inr ⟨fun h => hk (.inl h), fun h => hk (.inr h)⟩))
    · have e : textA (k, tx.data.toList, n, p) = ([], 1) := by
        unfold textA textR
        simp only
        rw [if_neg h2, if_pos (by simpa using hn)]
      rw [e]
      exact rtext_none k tx n p w h2 (.inl hn)
end Go.Proofs.YtmcfjlkjijaflaaGreatDoor

/- The document's Join. -/
namespace Go.Proofs.YtmcfjlkjijaflaaGreatDoor
open Go.RowKit

theorem rjoin_over {L : List Wd} {out : List By} (h : joinF L [] = some out) (hl : 8000 < out.length) {w w' : World} (hb : Below w.heap.size w w') : JoinPost L w (.returned (.tuple #[.string ⟨#[]⟩, .int .i64 6])) w' := by
  unfold JoinPost joinA
  rw [h]
  simp only
  rw [if_pos hl]
  exact ⟨rfl, hb⟩
set_option maxRecDepth 100000 in
set_option maxHeartbeats 3200000 in
theorem rjoin_long (ao : Option Addr) (b off cap : Nat) (L : List Wd) (w : World) (h : WArg w ao b off L) (hL : L.length ≤ 24000) (hx : ∀ x ∈ L, x.2.1.length ≤ 40) :
    Calls Tryz.prog 21 #[.slice ao L.length cap] w (JoinPost L w) := by
  have HA := Lib.hid h
  have HX := Lib.hid hx
  obtain ⟨n, hn⟩ : ∃ n, L.length = n := ⟨_, rfl⟩
  have HN := Lib.hid hn
  rw [hn] at hL ⊢
  clear h hx hn
  go_enter Tryz.func21, Tryz.ntmps21
  go_wp2
  go_loopw [4, 5] (fun v i' wr => ∃ (i : Nat) (o : ByteArray), i' = .int .i64 i ∧ v = .string o ∧ i ≤ n ∧ Hid (joinF L [] = joinF (L.drop i) o.data.toList) ∧ Hid (Below w.heap.size w wr) ∧ o.size ≤ 41 * i) (fun _ i' _ => n - (intOf i').toNat)
  case atStart => exact ⟨0, ⟨#[]⟩, rfl, rfl, Nat.zero_le _, rfl, Below.refl _ _, Nat.le_refl _⟩
  case round =>
    obtain ⟨i, o, rfl, rfl, hi, HE, HB, hol⟩ := hrel
    by_cases hlt : i < n
    · have hlt' : i < L.length := by rw [HN.out]; exact hlt
      have ha := HA.out.below HB.out
      obtain ⟨rfl, hbl⟩ := ha.at_ (by omega)
      obtain ⟨c0, c1, c2, c3⟩ := ha.cells i hlt'
      have hd : L.drop i = L[i] :: L.drop (i + 1) := List.drop_eq_getElem_cons hlt'
      have hx := HX.out L[i] (List.getElem_mem hlt')
      obtain ⟨⟨k, l, m, p⟩, hxe⟩ : ∃ x, L[i] = x := ⟨_, rfl⟩
      rw [hxe] at c0 c1 c2 c3 hd hx
      simp only at c0 c1 c2 c3 hx
      have hsz : (⟨l.toArray⟩ : ByteArray).size = l.length := by rw [Lib.size_eq]
      have HTX := Lib.hid (fun W => rtext_any k ⟨l.toArray⟩ m p W (by rw [hsz]; omega))
      have hn2 := HE.out
      rw [hd, joinF_cons] at hn2
      have hle := HB.out.size
      obtain ⟨tx, htx⟩ : ∃ tx : ByteArray, ⟨l.toArray⟩ = tx := ⟨_, rfl⟩
      rw [htx] at c1 HTX
      have hlx : ∀ s, textR (k, l, m, p) = some s → s.length ≤ 40 := fun s hs => textR_len hs hx
      cases hs : textR (k, l, m, p) with
      | none =>
        have e : textA (k, l, m, p) = ([], 1) := by unfold textA; rw [hs]
        rw [hs] at hn2
        rw [show tx.data.toList = l by rw [← htx], e] at HTX
        have HJ := Lib.hid hn2
        clear e hs hn2 hd hxe hx hlx htx hsz ha hlt'
        go_wp2_with fail
        with_reducible refine (HTX.out _).mono ?_
        rintro e w2 ⟨rfl, hb2⟩
        have HB2 := Lib.hid hb2
        clear hb2
        go_wp2
        go_ret2
        exact join_none HJ.out (HB.out.trans (HB2.out.mono hle))
      | some s =>
        have e : textA (k, l, m, p) = (s, 0) := by unfold textA; rw [hs]
        rw [hs] at hn2
        rw [show tx.data.toList = l by rw [← htx], e] at HTX
        have HJ := Lib.hid hn2
        have h40 := hlx s hs
        have HD : Hid (∃ r : ByteArray, (⟨s.toArray⟩ : ByteArray) = r ∧ r.data.toList = s ∧ r.size = s.length) := ⟨_, rfl, rfl, by rw [Lib.size_eq]⟩
        obtain ⟨r, hr1, hr2, hr3⟩ := HD.out
        simp only at HTX
        rw [hr1] at HTX
        have hr4 : r.size ≤ 40 := by omega
        have HR2 := Lib.hid hr2
        clear e hs hn2 hd hxe hx hlx htx hsz ha hlt' HD hr1 hr2 hr3 h40
        have hadd : ∀ (a : ByteArray) W, a.size ≤ 990000 → (Op.stringOp .add a r).run Tryz.prog W = .ok (.string (a ++ r)) W := fun a W ha => run_string_add_sum W a r (by omega)
        by_cases hcond : o.data.toList ≠ [] ∧ r.data.toList ≠ [59]
        · have q1 : o.toList.isEmpty = false := by rw [Lib.toList_data]; simpa using hcond.1
          have q0 : ¬ o.toList = [] := by rw [Lib.toList_data]; exact hcond.1
          have q2 : (r.toList == [59]) = false := by rw [Lib.toList_data]; simpa using hcond.2
          have a1 : ∀ W, (Op.stringOp .add o ⟨#[32]⟩).run Tryz.prog W = .ok (.string (o ++ ⟨#[32]⟩)) W := fun W => run_string_add_sum W o _ (by have : (⟨#[32]⟩ : ByteArray).size = 1 := rfl; omega)
          have hz : (o ++ (⟨#[32]⟩ : ByteArray)).size = o.size + 1 := (ba_add _ _).2
          have a2 := fun W => hadd (o ++ ⟨#[32]⟩) W (by omega)
          have HP : Hid ((o ++ (⟨#[32]⟩ : ByteArray) ++ r).data.toList = addR o.data.toList s ∧ (o ++ (⟨#[32]⟩ : ByteArray) ++ r).size = o.size + 1 + r.size) := by
            constructor
            · rw [(ba_add _ _).1, (ba_add _ _).1]
              unfold addR
              rw [if_pos (by rw [← HR2.out]; exact hcond), HR2.out]
            · rw [(ba_add _ _).2, hz]
          obtain ⟨o1, ho1⟩ : ∃ o1, o ++ (⟨#[32]⟩ : ByteArray) = o1 := ⟨_, rfl⟩
          rw [ho1] at a1 a2 HP
          obtain ⟨o2, ho2⟩ : ∃ o2, o1 ++ r = o2 := ⟨_, rfl⟩
          rw [ho2] at a2 HP
          clear hcond hadd ho1 ho2 hz
          go_wp2_with fail
          with_reducible refine (HTX.out _).mono ?_
          rintro e w2 ⟨rfl, hb2⟩
          have HB2 := Lib.hid hb2
          clear hb2
          go_wp2
          go_roundw
          case rel => exact ⟨i + 1, o2, by go_num, rfl, by omega, by rw [HP.out.1]; exact HJ, HB.out.trans (HB2.out.mono hle), by have := HP.out.2; omega⟩
          case measure => simp [intOf]; omega
        · have hd : o.toList = [] ∨ (¬ o.toList = [] ∧ (r.toList == [59]) = true) := by
            rw [Lib.toList_data, Lib.toList_data]
            by_cases h0 : o.data.toList = []
            · exact .inl h0
            · right
              refine ⟨h0, ?_⟩
              have h59 : r.data.toList = [59] := Classical.byContradiction fun h => hcond ⟨h0, h⟩
              simp [h59]
          have a2 := fun W => hadd o W (by omega)
          have HP : Hid ((o ++ r).data.toList = addR o.data.toList s ∧ (o ++ r).size = o.size + r.size) := by
            constructor
            · rw [(ba_add _ _).1]
              unfold addR
              rw [if_neg (by rw [← HR2.out]; exact hcond), HR2.out]
            · exact (ba_add _ _).2
          obtain ⟨o2, ho2⟩ : ∃ o2, o ++ r = o2 := ⟨_, rfl⟩
          rw [ho2] at a2 HP
          clear hcond hadd ho2
          rcases hd with q0 | ⟨q0, q2⟩
          · have q1 : o.toList.isEmpty = true := by rw [q0]; rfl
            go_wp2_with fail
            with_reducible refine (HTX.out _).mono ?_
            rintro e w2 ⟨rfl, hb2⟩
            have HB2 := Lib.hid hb2
            clear hb2
            go_wp2
            go_roundw
            case rel => exact ⟨i + 1, o2, by go_num, rfl, by omega, by rw [HP.out.1]; exact HJ, HB.out.trans (HB2.out.mono hle), by have := HP.out.2; omega⟩
            case measure => simp [intOf]; omega
          · have q1 : o.toList.isEmpty = false := by simpa using q0
            go_wp2_with fail
            with_reducible refine (HTX.out _).mono ?_
            rintro e w2 ⟨rfl, hb2⟩
            have HB2 := Lib.hid hb2
            clear hb2
            go_wp2
            go_roundw
            case rel => exact ⟨i + 1, o2, by go_num, rfl, by omega, by rw [HP.out.1]; exact HJ, HB.out.trans (HB2.out.mono hle), by have := HP.out.2; omega⟩
            case measure => simp [intOf]; omega
    · obtain rfl : i = n := by omega
      have hE := HE.out
      rw [List.drop_eq_nil_of_le (by rw [HN.out]; exact Nat.le_refl _)] at hE
      have HJ := Lib.hid (show joinF L [] = some o.data.toList from hE)
      clear hE
      by_cases h8 : o.size ≤ 8000
      · go_wp2
        go_ret2
        have h := join_some HJ.out (by rw [← Lib.size_eq]; exact h8) HB.out
        rw [Lib.mk_data] at h
        exact h
      · have g8 : (8000 : Int) < o.size := by omega
        go_wp2
        go_ret2
        exact rjoin_over HJ.out (by rw [← Lib.size_eq]; omega) HB.out
end Go.Proofs.YtmcfjlkjijaflaaGreatDoor

/- Same, where the words are the same. -/
namespace Go.Proofs.YtmcfjlkjijaflaaGreatDoor
open Go.RowKit

set_option maxRecDepth 100000 in
set_option maxHeartbeats 3200000 in
theorem same_any (ao1 ao2 : Option Addr) (b1 o1 b2 o2 c1 c2 : Nat) (A B : List Wd) (t : Bool) (w : World) (hA : WArg w ao1 b1 o1 A) (hB : WArg w ao2 b2 o2 B) (hl : A.length = B.length) (hm : A.length ≤ 1000000)
    (hs : ∀ i (h1 : i < A.length) (h2 : i < B.length), sameR A[i] B[i] ∧ (t = true → A[i].2.2.2 = B[i].2.2.2)) :
    Calls Tryz.prog 14 #[.slice ao1 A.length c1, .slice ao2 B.length c2, .bool t] w fun e w' => e = .returned (.bool true) ∧ ∃ n, w' = w.drewN n := by
  have HA := Lib.hid hA
  have HB := Lib.hid hB
  have HS := Lib.hid hs
  rw [← hl]
  have HL := Lib.hid hl
  obtain ⟨n, hn⟩ : ∃ n, A.length = n := ⟨_, rfl⟩
  have HN := Lib.hid hn
  rw [hn] at hm ⊢
  clear hA hB hs hl hn
  go_enter Tryz.func14, Tryz.ntmps14
  go_wp2
  go_loopw [7] (fun i' wr => ∃ i d : Nat, i ≤ n ∧ i' = .int .i64 i ∧ wr = w.drewN d) (fun i' _ => n - (intOf i').toNat)
  case atStart => exact ⟨0, 0, Nat.zero_le _, rfl, rfl⟩
  case round =>
    obtain ⟨i, d, hi, rfl, rfl⟩ := hrel
    by_cases hlt : i < n
    · have h1 : i < A.length := by rw [HN.out]; exact hlt
      have h2 : i < B.length := by rw [← HL.out, HN.out]; exact hlt
      obtain ⟨rfl, hb1⟩ := HA.out.at_ (by omega)
      obtain ⟨rfl, hb2⟩ := HB.out.at_ (by omega)
      obtain ⟨x0, x1, x2, x3⟩ := HA.out.cells i h1
      obtain ⟨y0, y1, y2, y3⟩ := HB.out.cells i h2
      obtain ⟨⟨s0, s1, s2⟩, s3⟩ := HS.out i h1 h2
      rw [← s0] at y0
      rw [← s1] at y1
      rw [← s2] at y2
      obtain ⟨k, hk⟩ : ∃ k, A[i].1 = k := ⟨_, rfl⟩
      obtain ⟨tx, htx⟩ : ∃ tx : ByteArray, ⟨A[i].2.1.toArray⟩ = tx := ⟨_, rfl⟩
      obtain ⟨m, hm'⟩ : ∃ m, A[i].2.2.1 = m := ⟨_, rfl⟩
      rw [hk] at x0 y0
      rw [htx] at x1 y1
      rw [hm'] at x2 y2
      obtain ⟨p, hp⟩ : ∃ p, A[i].2.2.2 = p := ⟨_, rfl⟩
      obtain ⟨q, hq⟩ : ∃ q, B[i].2.2.2 = q := ⟨_, rfl⟩
      rw [hp] at x3 s3
      rw [hq] at y3 s3
      clear s0 s1 s2 hk htx hm' hp hq
      cases t with
      | false =>
        clear s3
        go_wp2_with fail
        go_quiet (fail)
        go_wp2
        go_roundw
        case rel => exact ⟨i + 1, _, by omega, by go_num, rfl⟩
        case measure => simp [intOf]; omega
      | true =>
        obtain rfl := s3 rfl
        clear s3
        go_wp2_with fail
        go_quiet (fail)
        go_wp2
        go_roundw
        case rel => exact ⟨i + 1, _, by omega, by go_num, rfl⟩
        case measure => simp [intOf]; omega
    · go_wp2
      go_ret
      exact ⟨rfl, d, rfl⟩
end Go.Proofs.YtmcfjlkjijaflaaGreatDoor
