/-
  The program's add.
  What the library's Itoa answers; its table.
  Small letters, for the program.
  How many small letters a text begins with.
  The program's isName, isMark.
  Text in memory of its own.
  The program's Text.
  The program's Join.
-/
import Derived.Test.YtmcfjlkjijaflaaDoorGS
import Derived.Test.YtmcfjlkjijaflaaDoorShelf
import Derived.Lib.AppendIntMem
import Derived.Test.YtmcfjlkjijaflaaDoorGT

/- The program's add. -/
namespace Go.Proofs.YtmcfjlkjijaflaaDoor
open Go.RowKit

def AddPost (base : Nat) (l : List By) (w : World) (e : Ending) (w' : World) : Prop := ∃ v, e = .returned v ∧ BRow base w' v l ∧ Below base w w'
set_option maxHeartbeats 800000 in
theorem add_plain {base : Nat} {w : World} {v : Value} {l : List By} (h : BRow base w v l) (hb : base ≤ w.heap.size) (t : ByteArray) (hl : l.length + t.size ≤ 1000000) (hc : ¬ (l ≠ [] ∧ t.data.toList ≠ [59])) :
    Calls Tryd.prog 63 #[v, .string t] w (AddPost base (l ++ t.data.toList) w) := by
  obtain ⟨i0, hi0, hz0, hz1, hz2⟩ := info_parts byte_info
  obtain ⟨a, cap, rfl, _, _⟩ := ownsRow_shape h
  have HO : Hid (w.ownsRow base 5 1 (.slice a l.length cap) l.length (bC l)) := h
  rw [← Lib.toList_data] at hc
  have HE : Hid (l.length + t.size = (l ++ t.data.toList).length ∧ bC l ++ Lib.strCells t = bC (l ++ t.data.toList)) := by
    refine ⟨by rw [List.length_append, ← Lib.size_eq], ?_⟩
    unfold bC
    rw [List.map_append]
    rfl
  have fin : ∀ v' w2, w2.ownsRow base 5 1 v' (l.length + t.size) (bC l ++ Lib.strCells t) → w.grownBy w2 (Value.ownBlock (.slice a l.length cap)) → AddPost base (l ++ t.data.toList) w (.returned v') w2 := fun v' w2 h1 h2 => by
    rw [HE.out.1, HE.out.2] at h1
    exact ⟨v', rfl, h1, app_below (Below.refl _ _) hb (Nat.le_refl _) HO.out h2⟩
  have FIN := Lib.hid fin
  obtain ⟨L, hL⟩ : ∃ L, l ++ t.data.toList = L := ⟨_, rfl⟩
  rw [hL] at FIN ⊢
  obtain ⟨n, hn⟩ : ∃ n, l.length = n := ⟨_, rfl⟩
  rw [hn] at HO FIN hl ⊢
  have hd : n = 0 ∨ (0 < n ∧ (t.toList == [59]) = true) := by
    by_cases h0 : l = []
    · left
      rw [← hn, h0]
      rfl
    · right
      refine ⟨by rw [← hn]; exact List.length_pos_iff.2 h0, ?_⟩
      simp [h0] at hc
      simp [hc]
  clear hL hn hc h fin HE
  rcases hd with rfl | ⟨h0, h59⟩
  · go_enter Tryd.func63, Tryd.ntmps63
    go_wp2_with (at_builtin; refine Lib.wpList_append_own_string _ rfl _ _ 108 9 rfl base 5 i0 Tryd.underlying108 Tryd.underlying9 hi0 hz0 hz1 hz2 _ _ _ rfl HO.out t rfl ?c1 ?c2 ?c3 ?_)
    case c1 => unfold maxLen; omega
    case c2 => omega
    case c3 => exact hb
    intro v' w2 h1 h2 _
    have HF := Lib.hid (FIN.out v' w2 (by rw [Nat.zero_add]; exact h1) h2)
    clear h1 h2
    go_wp2
    go_ret
    exact HF.out
  · go_enter Tryd.func63, Tryd.ntmps63
    go_wp2_with (at_builtin; refine Lib.wpList_append_own_string _ rfl _ _ 108 9 rfl base 5 i0 Tryd.underlying108 Tryd.underlying9 hi0 hz0 hz1 hz2 _ _ _ rfl HO.out t rfl ?d1 ?d2 ?d3 ?_)
    case d1 => unfold maxLen; omega
    case d2 => omega
    case d3 => exact hb
    intro v' w2 h1 h2 _
    have HF := Lib.hid (FIN.out v' w2 h1 h2)
    clear h1 h2
    go_wp2
    go_ret
    exact HF.out
set_option maxHeartbeats 800000 in
theorem add_blank {base : Nat} {w : World} {v : Value} {l : List By} (h : BRow base w v l) (hb : base ≤ w.heap.size) (t : ByteArray) (hl : l.length + t.size ≤ 1000000) (hc : l ≠ [] ∧ t.data.toList ≠ [59]) :
    Calls Tryd.prog 63 #[v, .string t] w (AddPost base (l ++ [32] ++ t.data.toList) w) := by
  obtain ⟨i0, hi0, hz0, hz1, hz2⟩ := info_parts byte_info
  obtain ⟨a, cap, rfl, _, _⟩ := ownsRow_shape h
  have HO : Hid (w.ownsRow base 5 1 (.slice a l.length cap) l.length (bC l)) := h
  rw [← Lib.toList_data] at hc
  have h0 : 0 < l.length := List.length_pos_iff.2 hc.1
  have h59 : (t.toList == [59]) = false := by simpa using hc.2
  have HE : Hid (l.length + 1 + t.size = (l ++ [32] ++ t.data.toList).length ∧ bC l ++ [.int .u8 32] ++ Lib.strCells t = bC (l ++ [32] ++ t.data.toList)) := by
    refine ⟨by rw [List.length_append, List.length_append, ← Lib.size_eq]; rfl, ?_⟩
    unfold bC
    rw [List.map_append, List.map_append]
    rfl
  obtain ⟨L, hL⟩ : ∃ L, l ++ [32] ++ t.data.toList = L := ⟨_, rfl⟩
  rw [hL] at HE ⊢
  obtain ⟨n, hn⟩ : ∃ n, l.length = n := ⟨_, rfl⟩
  rw [hn] at HO HE hl h0 ⊢
  clear hL hn hc h
  go_enter Tryd.func63, Tryd.ntmps63
  go_wp2_with (at_builtin; refine wpList_append_own _ rfl _ _ 108 rfl base 5 i0 (.int .u8 0) 1 1 Tryd.underlying108 hi0 hz0 hz1 hz2 rfl (by decide) _ _ _ rfl (HO.out.alloc _) ⟨w.heap.size, 0, none⟩ 1 1 [.int .u8 32] rfl rfl ?c1 ?c2 ?c3 ?c4 ?c5 ?_)
  case c1 =>
    intro j u hj
    rw [Addr.add_lit]
    match j, hj with
    | 0, hj =>
      simp at hj
      subst hj
      exact one_cell w _ _
  case c2 => intro u hu; simp at hu; subst hu; rfl
  case c3 => unfold maxLen; omega
  case c4 => omega
  case c5 => first | omega | (simp; omega) | trace_state
  intro v1 w1 h1 h2 _
  have hb1 := app_below ((Below.refl base w).alloc hb _) hb (Nat.le_refl _) HO.out h2
  have hs1 := hb1.size
  have HO1 := Lib.hid h1
  have HB1 := Lib.hid hb1
  clear h1 h2 hb1
  go_wp2_with (at_builtin; refine Lib.wpList_append_own_string _ rfl _ _ 108 9 rfl base 5 i0 Tryd.underlying108 Tryd.underlying9 hi0 hz0 hz1 hz2 _ _ _ rfl HO1.out t rfl ?d1 ?d2 ?d3 ?_)
  case d1 => unfold maxLen; omega
  case d2 => omega
  case d3 => omega
  intro v2 w2 h1 h2 _
  have HB2 := Lib.hid (app_below HB1.out hb (Nat.le_refl _) HO1.out h2)
  have HO2 : Hid (BRow base w2 v2 L) := by
    unfold Hid BRow
    rw [← HE.out.1, ← HE.out.2, List.append_assoc]
    exact h1
  clear h1 h2
  go_wp2
  go_ret
  exact ⟨_, rfl, HO2.out, HB2.out⟩
theorem add_any {base : Nat} {w : World} {v : Value} {l : List By} (h : BRow base w v l) (hb : base ≤ w.heap.size) (t : ByteArray) (hl : l.length + t.size ≤ 1000000) :
    Calls Tryd.prog 63 #[v, .string t] w (AddPost base (addR l t.data.toList) w) := by
  unfold addR
  by_cases hc : l ≠ [] ∧ t.data.toList ≠ [59]
  · rw [if_pos hc]
    exact add_blank h hb t hl hc
  · rw [if_neg hc]
    exact add_plain h hb t hl hc
end Go.Proofs.YtmcfjlkjijaflaaDoor

/- What the library's Itoa answers; its table. -/
namespace Go.Proofs.YtmcfjlkjijaflaaDoor
open Go.RowKit

/-- The library's table lies as its initialiser lays it. -/
def TabOk (w : World) : Prop := Lib.TabIs Tryd.prog w "internal/strconv.uint64pow10" .u64 Lib.pow10Tab
theorem TabOk.below {w w' : World} (h : TabOk w) (hb : Below w.heap.size w w') : TabOk w' := Lib.tabBelow_of_tabIs h w' hb
theorem digits_eq (n : Nat) : Lib.decDigits n = digitsR n := by
  by_cases h : n < 10
  · rw [Lib.decDigits, dif_pos h, digits_small h]
  · rw [Lib.decDigits, dif_neg h, digits_great h, digits_eq (n / 10)]
termination_by n
decreasing_by omega
theorem itoa_any (n : Nat) (hn : n ≤ 999999999) (w : World) (hT : TabOk w) :
    Calls Tryd.prog 84 #[.int .i64 n] w fun e w' => e = .returned (.string ⟨(digitsR n).toArray⟩) ∧ Below w.heap.size w w' := by
  have h := Tryd.strconv_Itoa (n : Int) (by omega) (by omega) w hT
  have e : Lib.itoa (n : Int) = digitsR n := by
    unfold Lib.itoa
    rw [if_neg (by omega), Int.toNat_natCast, digits_eq]
  rw [e] at h
  exact h.mono fun e w' ⟨he, k, os, hw⟩ => ⟨he, by rw [hw]; exact grow_below w k os⟩
end Go.Proofs.YtmcfjlkjijaflaaDoor

/- Small letters, for the program. -/
namespace Go.Proofs.YtmcfjlkjijaflaaDoor
open Go.RowKit

theorem plet_z (z : Int) (w : World) : Calls Tryd.prog 92 #[.int .u8 z] w fun e w' => e = .returned (.bool (decide (97 ≤ z) && decide (z ≤ 122))) ∧ w' = w := by
  cases h0 : (decide (97 ≤ z))
  all_goals
    go_enter Tryd.func92, Tryd.ntmps92
    go_wp2
    go_ret
    exact ⟨rfl, rfl⟩
theorem plet_any (c : By) (w : World) : Calls Tryd.prog 92 #[.int .u8 c.toNat] w fun e w' => e = .returned (.bool (isLet c)) ∧ w' = w := by
  have h := plet_z (c.toNat : Int) w
  rw [show decide ((97 : Int) ≤ (c.toNat : Int)) = decide (97 ≤ c.toNat) from geb c 97, show decide ((c.toNat : Int) ≤ (122 : Int)) = decide (c.toNat ≤ 122) from leb c 122] at h
  exact h
end Go.Proofs.YtmcfjlkjijaflaaDoor

/- How many small letters a text begins with. -/
namespace Go.Proofs.YtmcfjlkjijaflaaDoor
open Go.RowKit

set_option maxHeartbeats 400000 in
theorem run_let (s : ByteArray) (w : World) (hs : s.size ≤ maxLen) :
    Calls Tryd.prog 91 #[.string s, .func (.func 92) #[] #[]] w fun e w' => e = .returned (.int .i64 (s.data.toList.takeWhile isLet).length) ∧ w' = w := by
  unfold maxLen at hs
  have HF := Lib.hid (plet_any)
  go_enter Tryd.func91, Tryd.ntmps91
  go_wp2
  go_loop [5] (fun n => ∃ k : Nat, k ≤ s.size ∧ n = .int .i64 k ∧ Hid ((s.data.toList.takeWhile isLet).length = k + ((s.data.toList.drop k).takeWhile isLet).length)) (fun n => s.size - (intOf n).toNat)
  case atStart => exact ⟨0, Nat.zero_le _, rfl, by unfold Hid; simp⟩
  case round =>
    obtain ⟨k, hk, rfl, HK⟩ := hrel
    by_cases hlt : k < s.size
    · have HD := Lib.hid (byte_drop s k hlt)
      have HQ := Lib.hid (HF.out (s[k]) w)
      obtain ⟨c, hc⟩ : ∃ c, s[k] = c := ⟨_, rfl⟩
      rw [hc] at HD HQ
      cases hq : isLet c with
      | true =>
        rw [hq] at HQ
        have HE := Lib.hid hq
        clear hq
        go_wp2_with fail
        with_reducible refine HQ.out.mono ?_
        rintro e w1 ⟨rfl, rfl⟩
        go_wp2
        go_round
        case rel => exact ⟨k + 1, by omega, by go_num, by
          have h := HK.out
          rw [HD.out, List.takeWhile_cons, if_pos HE.out, List.length_cons] at h
          unfold Hid
          omega⟩
        case measure => simp [intOf]; omega
      | false =>
        rw [hq] at HQ
        have HE := Lib.hid hq
        clear hq
        go_wp2_with fail
        with_reducible refine HQ.out.mono ?_
        rintro e w1 ⟨rfl, rfl⟩
        go_wp2
        go_ret
        have h := HK.out
        rw [HD.out, List.takeWhile_cons, if_neg (by rw [HE.out]; decide)] at h
        exact ⟨by rw [h]; rfl, rfl⟩
    · go_wp2
      go_ret
      have h := HK.out
      rw [drop_end s k (by omega)] at h
      exact ⟨by rw [h]; rfl, rfl⟩
end Go.Proofs.YtmcfjlkjijaflaaDoor

/- The program's isName, isMark. -/
namespace Go.Proofs.YtmcfjlkjijaflaaDoor
open Go.RowKit

set_option maxHeartbeats 400000 in
theorem isName_any (s : ByteArray) (w : World) (hs : s.size ≤ maxLen) : Calls Tryd.prog 82 #[.string s] w fun e w' => e = .returned (.bool (nameB s.data.toList)) ∧ w' = w := by
  have HR := Lib.hid (run_let s w hs)
  have HS := Lib.hid (Lib.size_eq s)
  unfold nameB
  by_cases h1 : 1 ≤ s.size
  · by_cases h2 : s.size ≤ 12
    · rw [← HS.out, decide_eq_true h1, decide_eq_true h2]
      obtain ⟨n, hn⟩ : ∃ n, (s.data.toList.takeWhile isLet).length = n := ⟨_, rfl⟩
      rw [hn] at HR ⊢
      clear hn
      cases h3 : decide (n = s.size)
      all_goals
        have h4 : ((n : Int) == (s.size : Int)) = decide (n = s.size) := by rw [Bool.eq_iff_iff]; simp; omega
        rw [h3] at h4
        clear h3
        go_enter Tryd.func82, Tryd.ntmps82
        go_wp2_with fail
        with_reducible refine HR.out.mono ?_
        rintro e w1 ⟨rfl, rfl⟩
        go_wp2
        go_ret
        exact ⟨rfl, rfl⟩
    · rw [← HS.out, decide_eq_true h1, decide_eq_false h2]
      go_enter Tryd.func82, Tryd.ntmps82
      go_wp2
      go_ret
      exact ⟨rfl, rfl⟩
  · rw [← HS.out, decide_eq_false h1]
    go_enter Tryd.func82, Tryd.ntmps82
    go_wp2
    go_ret
    exact ⟨rfl, rfl⟩
set_option maxHeartbeats 400000 in
theorem isMark_any (s : ByteArray) (w : World) : Calls Tryd.prog 85 #[.string s] w fun e w' => e = .returned (.bool (markB s.data.toList)) ∧ w' = w := by
  unfold markB
  rw [← Lib.toList_data]
  cases h1 : (s.toList == [123]) <;> cases h2 : (s.toList == [125]) <;> cases h3 : (s.toList == [59]) <;> cases h4 : (s.toList == [46]) <;> cases h5 : (s.toList == [61])
  all_goals
    go_enter Tryd.func85, Tryd.ntmps85
    go_wp2
    go_ret
    exact ⟨rfl, rfl⟩
end Go.Proofs.YtmcfjlkjijaflaaDoor

/- Text in memory of its own. -/
namespace Go.Proofs.YtmcfjlkjijaflaaDoor
open Go.RowKit

theorem conv_own (w : World) (s : ByteArray) : ∃ c, (convert 9 108 (.string s)).run Tryd.prog w = .ok (.slice (some ⟨w.heap.size, 0, none⟩) s.size c) (Lib.bytesWorld w 5 s) := by
  exact ⟨_, Lib.run_convert_string_bytes w _ _ _ s Tryd.underlying9 Tryd.underlying108 Tryd.underlying5⟩
set_option maxHeartbeats 400000 in
theorem own_any (s : ByteArray) (w : World) : Calls Tryd.prog 83 #[.string s] w fun e w' => e = .returned (.string s) ∧ Below w.heap.size w w' := by
  obtain ⟨c, h1⟩ := conv_own w s
  have hb : Below w.heap.size w (Lib.bytesWorld w 5 s) := by
    refine ⟨rfl, rfl, rfl, by rw [Lib.bytesWorld_size]; omega, fun k hk => Lib.bytesWorld_at_old w _ s k hk⟩
  have h2 := run_convert_bytes_back (P := Tryd.prog) (Lib.bytesWorld w 5 s) 108 9 5 ⟨w.heap.size, 0, none⟩ c s.data.toList Tryd.underlying108 Tryd.underlying5 Tryd.underlying9 (fun j hj => by
    rw [Addr.add_lit]
    have hj' : j < s.size := by rw [Lib.size_eq]; exact hj
    have := Lib.bytesWorld_cell w 5 s j hj'
    rw [Nat.zero_add, this]
    rw [List.getD_eq_getElem?_getD, List.getElem?_eq_getElem hj]
    rfl)
  rw [Lib.mk_data, ← Lib.size_eq] at h2
  obtain ⟨W, hW⟩ : ∃ W, Lib.bytesWorld w 5 s = W := ⟨_, rfl⟩
  rw [hW] at h1 h2 hb
  have HB := Lib.hid hb
  clear hW hb
  go_enter Tryd.func83, Tryd.ntmps83
  go_wp2
  go_ret
  exact ⟨rfl, HB.out⟩
end Go.Proofs.YtmcfjlkjijaflaaDoor

/- The program's Text. -/
namespace Go.Proofs.YtmcfjlkjijaflaaDoor
open Go.RowKit

set_option maxHeartbeats 800000 in
theorem text_name (tx : ByteArray) (n p : Int) (w : World) (hs : tx.size ≤ maxLen) :
    Calls Tryd.prog 62 #[.agg #[.int .i64 1, .string tx, .int .i64 n, .int .i64 p]] w fun e w' => e = .returned (if (nameB tx.data.toList && decide (n = 0)) = true then .tuple #[.string tx, .int .i64 0] else .tuple #[.string ⟨#[]⟩, .int .i64 1]) ∧ Below w.heap.size w w' := by
  have HI := Lib.hid (fun W => isName_any tx W hs)
  have HO := Lib.hid (own_any tx)
  obtain ⟨t, ht⟩ : ∃ t, nameB tx.data.toList = t := ⟨_, rfl⟩
  rw [ht] at HI ⊢
  clear ht hs
  cases t with
  | false =>
    rw [if_neg (by simp)]
    go_enter Tryd.func62, Tryd.ntmps62
    go_wp2_with fail
    with_reducible refine (HI.out _).mono ?_
    rintro e w1 ⟨rfl, rfl⟩
    go_wp2
    go_ret2
    exact ⟨rfl, (Below.refl _ _).alloc (Nat.le_refl _) _⟩
  | true =>
    by_cases hn : n = 0
    · subst hn
      rw [if_pos (by simp)]
      go_enter Tryd.func62, Tryd.ntmps62
      go_wp2_with fail
      with_reducible refine (HI.out _).mono ?_
      rintro e w1 ⟨rfl, rfl⟩
      go_wp2_with fail
      with_reducible refine (HO.out _).mono ?_
      rintro e w2 ⟨rfl, hb⟩
      have HB := Lib.hid hb
      clear hb
      go_wp2
      go_ret2
      exact ⟨rfl, ((Below.refl _ _).alloc (Nat.le_refl _) _).trans (HB.out.mono (by simp))⟩
    · rw [if_neg (by simp [hn])]
      have d0 : (n == 0) = false := by simpa using hn
      clear hn
      go_enter Tryd.func62, Tryd.ntmps62
      go_wp2_with fail
      with_reducible refine (HI.out _).mono ?_
      rintro e w1 ⟨rfl, rfl⟩
      go_wp2
      go_ret2
      exact ⟨rfl, (Below.refl _ _).alloc (Nat.le_refl _) _⟩
set_option maxHeartbeats 800000 in
theorem text_mark (tx : ByteArray) (n p : Int) (w : World) :
    Calls Tryd.prog 62 #[.agg #[.int .i64 3, .string tx, .int .i64 n, .int .i64 p]] w fun e w' => e = .returned (if (markB tx.data.toList && decide (n = 0)) = true then .tuple #[.string tx, .int .i64 0] else .tuple #[.string ⟨#[]⟩, .int .i64 1]) ∧ Below w.heap.size w w' := by
  have HI := Lib.hid (fun W => isMark_any tx W)
  have HO := Lib.hid (own_any tx)
  obtain ⟨t, ht⟩ : ∃ t, markB tx.data.toList = t := ⟨_, rfl⟩
  rw [ht] at HI ⊢
  clear ht
  cases t with
  | false =>
    rw [if_neg (by simp)]
    go_enter Tryd.func62, Tryd.ntmps62
    go_wp2_with fail
    with_reducible refine (HI.out _).mono ?_
    rintro e w1 ⟨rfl, rfl⟩
    go_wp2
    go_ret2
    exact ⟨rfl, (Below.refl _ _).alloc (Nat.le_refl _) _⟩
  | true =>
    by_cases hn : n = 0
    · subst hn
      rw [if_pos (by simp)]
      go_enter Tryd.func62, Tryd.ntmps62
      go_wp2_with fail
      with_reducible refine (HI.out _).mono ?_
      rintro e w1 ⟨rfl, rfl⟩
      go_wp2_with fail
      with_reducible refine (HO.out _).mono ?_
      rintro e w2 ⟨rfl, hb⟩
      have HB := Lib.hid hb
      clear hb
      go_wp2
      go_ret2
      exact ⟨rfl, ((Below.refl _ _).alloc (Nat.le_refl _) _).trans (HB.out.mono (by simp))⟩
    · rw [if_neg (by simp [hn])]
      have d0 : (n == 0) = false := by simpa using hn
      clear hn
      go_enter Tryd.func62, Tryd.ntmps62
      go_wp2_with fail
      with_reducible refine (HI.out _).mono ?_
      rintro e w1 ⟨rfl, rfl⟩
      go_wp2
      go_ret2
      exact ⟨rfl, (Below.refl _ _).alloc (Nat.le_refl _) _⟩
set_option maxHeartbeats 800000 in
theorem text_none (k : Int) (tx : ByteArray) (n p : Int) (w : World) (h1 : ¬ k = 1) (h2 : ¬ k = 2) (h3 : ¬ k = 3) :
    Calls Tryd.prog 62 #[.agg #[.int .i64 k, .string tx, .int .i64 n, .int .i64 p]] w fun e w' => e = .returned (.tuple #[.string ⟨#[]⟩, .int .i64 1]) ∧ Below w.heap.size w w' := by
  have d1 : (k == 1) = false := by simpa using h1
  have d2 : (k == 2) = false := by simpa using h2
  have d3 : (k == 3) = false := by simpa using h3
  clear h1 h2 h3
  go_enter Tryd.func62, Tryd.ntmps62
  go_wp2
  go_ret2
  exact ⟨rfl, (Below.refl _ _).alloc (Nat.le_refl _) _⟩
set_option maxHeartbeats 800000 in
theorem text_num (tx : ByteArray) (n p : Int) (w : World) (hT : TabOk w) :
    Calls Tryd.prog 62 #[.agg #[.int .i64 2, .string tx, .int .i64 n, .int .i64 p]] w fun e w' => e = .returned (if (tx.data.toList == [] && decide (0 ≤ n) && decide (n ≤ 999999999)) = true then .tuple #[.string ⟨(digitsR n.toNat).toArray⟩, .int .i64 0] else .tuple #[.string ⟨#[]⟩, .int .i64 1]) ∧ Below w.heap.size w w' := by
  rw [← Lib.toList_data]
  by_cases hx : tx.toList = []
  · by_cases h0 : 0 ≤ n
    · by_cases h9 : n ≤ 999999999
      · rw [if_pos (by simp [hx, h0, h9])]
        obtain ⟨m, rfl⟩ := Int.eq_ofNat_of_zero_le h0
        rw [Int.toNat_natCast]
        have HI := Lib.hid (fun W => itoa_any m (by omega) W)
        have HT := Lib.hid (hT.below (w' := w.alloc (.cells #[.int .i64 2, .string tx, .int .i64 m, .int .i64 p] 74)) ((Below.refl _ _).alloc (Nat.le_refl _) _))
        obtain ⟨r, hr⟩ : ∃ r : ByteArray, ⟨(digitsR m).toArray⟩ = r := ⟨_, rfl⟩
        rw [hr] at HI ⊢
        clear hr hT
        go_enter Tryd.func62, Tryd.ntmps62
        go_wp2_with fail
        with_reducible refine (HI.out _ HT.out).mono ?_
        rintro e w2 ⟨rfl, hb⟩
        have HB := Lib.hid hb
        clear hb
        go_wp2
        go_ret2
        exact ⟨rfl, ((Below.refl _ _).alloc (Nat.le_refl _) _).trans (HB.out.mono (by simp))⟩
      · rw [if_neg (by simp [h9])]
        go_enter Tryd.func62, Tryd.ntmps62
        go_wp2
        go_ret2
        exact ⟨rfl, (Below.refl _ _).alloc (Nat.le_refl _) _⟩
    · rw [if_neg (by simp [h0])]
      go_enter Tryd.func62, Tryd.ntmps62
      go_wp2
      go_ret2
      exact ⟨rfl, (Below.refl _ _).alloc (Nat.le_refl _) _⟩
  · rw [if_neg (by simp [hx])]
    go_enter Tryd.func62, Tryd.ntmps62
    go_wp2
    go_ret2
    exact ⟨rfl, (Below.refl _ _).alloc (Nat.le_refl _) _⟩
/-- A word as a text. -/
theorem text_any (k : Int) (tx : ByteArray) (n p : Int) (w : World) (hs : tx.size ≤ maxLen) (hT : TabOk w) :
    Calls Tryd.prog 62 #[.agg #[.int .i64 k, .string tx, .int .i64 n, .int .i64 p]] w fun e w' => e = .returned (.tuple #[.string ⟨(textA (k, tx.data.toList, n, p)).1.toArray⟩, .int .i64 (textA (k, tx.data.toList, n, p)).2]) ∧ Below w.heap.size w w' := by
  rw [← text_eq]
  unfold textP
  simp only
  by_cases h1 : k = 1
  · subst h1
    rw [if_pos rfl]
    have h := text_name tx n p w hs
    split
    · next hc => rw [if_pos hc] at h; rw [Lib.mk_data]; exact h
    · next hc => rw [if_neg hc] at h; exact h
  · rw [if_neg h1]
    by_cases h2 : k = 2
    · subst h2
      rw [if_pos rfl]
      have h := text_num tx n p w hT
      split
      · next hc => rw [if_pos hc] at h; exact h
      · next hc => rw [if_neg hc] at h; exact h
    · rw [if_neg h2]
      by_cases h3 : k = 3
      · subst h3
        rw [if_pos rfl]
        have h := text_mark tx n p w
        split
        · next hc => rw [if_pos hc] at h; rw [Lib.mk_data]; exact h
        · next hc => rw [if_neg hc] at h; exact h
      · rw [if_neg h3]
        exact text_none k tx n p w h1 h2 h3
end Go.Proofs.YtmcfjlkjijaflaaDoor

/- The program's Join. -/
namespace Go.Proofs.YtmcfjlkjijaflaaDoor
open Go.RowKit

theorem addR_ge (out s : List By) : out.length ≤ (addR out s).length := by
  unfold addR
  split <;> simp
theorem join_over {L : List Wd} {out : List By} (h : joinF L [] = some out) (hl : 8000 < out.length) {w w' : World} (hb : Below w.heap.size w w') : JoinPost L w (.returned (.tuple #[.string ⟨#[]⟩, .int .i64 6])) w' := by
  unfold JoinPost joinA
  rw [h]
  simp only
  rw [if_pos hl]
  exact ⟨rfl, hb⟩
set_option maxRecDepth 100000 in
set_option maxHeartbeats 3200000 in
theorem join_long (ao : Option Addr) (b off cap : Nat) (L : List Wd) (w : World) (h : WArg w ao b off L) (hL : L.length ≤ 1000000) (hx : ∀ x ∈ L, x.2.1.length ≤ 40) (hT : TabOk w) :
    Calls Tryd.prog 35 #[.slice ao L.length cap] w (JoinPost L w) := by
  have HA := Lib.hid h
  have HX := Lib.hid hx
  have HT := Lib.hid hT
  obtain ⟨n, hn⟩ : ∃ n, L.length = n := ⟨_, rfl⟩
  have HN := Lib.hid hn
  rw [hn] at hL ⊢
  clear h hx hT hn
  go_enter Tryd.func35, Tryd.ntmps35
  go_wp2
  go_loopw [4, 11] (fun v i' wr => ∃ (i : Nat) (out outT : List By), i' = .int .i64 i ∧ i ≤ n ∧ Hid (joinF L [] = joinF (L.drop i) outT) ∧ Hid (BRow w.heap.size wr v out) ∧ Hid (Below w.heap.size w wr) ∧ Hid (out.length ≤ 8041 ∧ (out = outT ∨ 8000 < out.length ∧ 8000 < outT.length))) (fun _ i' _ => n - (intOf i').toNat)
  case atStart => exact ⟨0, [], [], rfl, Nat.zero_le _, rfl, World.ownsRow_nil _ _ _ _, Below.refl _ _, Lib.hid ⟨Nat.zero_le _, .inl rfl⟩⟩
  case round =>
    obtain ⟨i, out, outT, rfl, hi, HE, HO, HB, HL⟩ := hrel
    obtain ⟨av, cv, rfl, _, _⟩ := ownsRow_shape HO.out
    by_cases hlt : i < n
    · have hlt' : i < L.length := by rw [HN.out]; exact hlt
      have ha := HA.out.below HB.out
      obtain ⟨rfl, hbl⟩ := ha.at_ (by omega)
      obtain ⟨c0, c1, c2, c3⟩ := ha.cells i hlt'
      have hd : L.drop i = L[i] :: L.drop (i + 1) := List.drop_eq_getElem_cons hlt'
      have hx := HX.out L[i] (List.getElem_mem hlt')
      obtain ⟨⟨k, l, m, p⟩, hxe⟩ : ∃ x, L[i] = x := ⟨_, rfl⟩
      rw [hxe] at c0 c1 c2 c3 hd hx
      simp only at c0 c1 c2 c3 hx
      have hsz : (⟨l.toArray⟩ : ByteArray).size = l.length := by rw [Lib.size_eq]
      have HTX := Lib.hid (fun W hW => text_any k ⟨l.toArray⟩ m p W (by rw [hsz]; unfold maxLen; omega) hW)
      have hn2 := HE.out
      rw [hd, joinF_cons] at hn2
      have hle := HB.out.size
      have HC := Lib.hid (show TabOk (wr.alloc (.cells #[.int .i64 k, .string ⟨l.toArray⟩, .int .i64 m, .int .i64 p] 74)) from (HT.out.below HB.out).below ((Below.refl _ _).alloc (Nat.le_refl _) _))
      obtain ⟨tx, htx⟩ : ∃ tx : ByteArray, ⟨l.toArray⟩ = tx := ⟨_, rfl⟩
      rw [htx] at c1 HTX HC
      have hlx : ∀ s, textR (k, l, m, p) = some s → s.length ≤ 40 := fun s hs => textR_len hs hx
      cases hs : textR (k, l, m, p) with
      | none =>
        have e : textA (k, l, m, p) = ([], 1) := by unfold textA; rw [hs]
        rw [hs] at hn2
        rw [show tx.data.toList = l by rw [← htx], e] at HTX
        have HJ := Lib.hid hn2
        clear e hs hn2 hd hxe hx hlx htx hsz ha hlt'
        go_wp2_with fail
        with_reducible refine (HTX.out _ HC.out).mono ?_
        rintro e w2 ⟨rfl, hb2⟩
        have HB2 := Lib.hid hb2
        clear hb2
        go_wp2
        go_ret2
        exact join_none HJ.out ((HB.out.alloc hle _).trans (HB2.out.mono (by simp; omega)))
      | some s =>
        have e : textA (k, l, m, p) = (s, 0) := by unfold textA; rw [hs]
        rw [hs] at hn2
        rw [show tx.data.toList = l by rw [← htx], e] at HTX
        have HJ := Lib.hid hn2
        have h40 := hlx s hs
        have HD : Hid (∃ r : ByteArray, (⟨s.toArray⟩ : ByteArray) = r ∧ r.data.toList = s ∧ r.size = s.length) := ⟨_, rfl, rfl, by rw [Lib.size_eq]⟩
        obtain ⟨r, hr1, hr2, hr3⟩ := HD.out
        simp only at HTX
        rw [hr1] at HTX
        by_cases h8 : out.length ≤ 8000
        · obtain rfl : out = outT := by
            rcases HL.out.2 with h | h
            · exact h
            · omega
          have HADD := Lib.hid (fun (W : World) (v : Value) (h : BRow w.heap.size W v out) (hw : w.heap.size ≤ W.heap.size) => add_any h hw r (by omega))
          have HR2 := Lib.hid hr2
          have HR3 := Lib.hid hr3
          clear e hs hn2 hd hxe hx hlx htx hsz ha hlt' HD hr1 hr2 hr3
          go_wp2_with fail
          with_reducible refine (HTX.out _ HC.out).mono ?_
          rintro e w2 ⟨rfl, hb2⟩
          have hs2 := hb2.size
          have HB2 := Lib.hid (((Below.refl wr.heap.size wr).alloc (Nat.le_refl _) (.cells #[.int .i64 k, .string tx, .int .i64 m, .int .i64 p] 74)).trans (hb2.mono (by simp)))
          clear hb2
          go_wp2_with fail
          with_reducible refine (HADD.out _ _ (row_below HO.out HB2.out) (Nat.le_trans hle HB2.out.size)).mono ?_
          rintro e w3 ⟨v3, rfl, hr3, hb3⟩
          rw [HR2.out] at hr3
          have HO3 := Lib.hid hr3
          have HB3 := Lib.hid ((HB.out.trans (HB2.out.mono hle)).trans hb3)
          have HL3 : Hid ((addR out s).length ≤ 8041) := by
            unfold Hid
            have := addR_len out s
            omega
          clear hr3 hb3
          go_wp2
          go_roundw
          case rel => exact ⟨i + 1, addR out s, addR out s, by go_num, by omega, HJ, HO3, HB3, Lib.hid ⟨HL3.out, .inl rfl⟩⟩
          case measure => simp [intOf]; omega
        · have g8 : ¬ ((out.length : Nat) : Int) ≤ 8000 := by omega
          have HL3 : Hid (out.length ≤ 8041 ∧ (out = addR outT s ∨ 8000 < out.length ∧ 8000 < (addR outT s).length)) := by
            have h1 := HL.out
            have h2 := addR_ge outT s
            refine Lib.hid ⟨h1.1, .inr ⟨by omega, ?_⟩⟩
            rcases h1.2 with h | h
            · rw [← h] at h2
              rw [← h]
              omega
            · omega
          clear e hs hn2 hd hxe hx hlx htx hsz ha hlt' HD hr1 hr2 hr3
          go_wp2_with fail
          with_reducible refine (HTX.out _ HC.out).mono ?_
          rintro e w2 ⟨rfl, hb2⟩
          have HB2 := Lib.hid (((Below.refl wr.heap.size wr).alloc (Nat.le_refl _) (.cells #[.int .i64 k, .string tx, .int .i64 m, .int .i64 p] 74)).trans (hb2.mono (by simp)))
          have HO3 := Lib.hid (row_below HO.out HB2.out)
          have HB3 := Lib.hid (HB.out.trans (HB2.out.mono hle))
          clear hb2
          go_wp2
          go_roundw
          case rel => exact ⟨i + 1, out, addR outT s, by go_num, by omega, HJ, HO3, HB3, HL3⟩
          case measure => simp [intOf]; omega
    · obtain rfl : i = n := by omega
      have hE := HE.out
      rw [List.drop_eq_nil_of_le (by rw [HN.out]; exact Nat.le_refl _)] at hE
      have HJ := Lib.hid (show joinF L [] = some outT from hE)
      by_cases h8 : out.length ≤ 8000
      · obtain rfl : out = outT := by
          rcases HL.out.2 with h | h
          · exact h
          · omega
        have hcv := conv_back HO.out
        clear hE
        go_wp2
        go_ret2
        exact join_some HJ.out h8 HB.out
      · have g8 : (8000 : Int) < (out.length : Nat) := by omega
        have hT8 : 8000 < outT.length := by
          rcases HL.out.2 with h | h
          · rw [← h]
            omega
          · omega
        clear hE
        go_wp2
        go_ret2
        exact join_over HJ.out hT8 HB.out
theorem join_any (ao : Option Addr) (b off cap : Nat) (L : List Wd) (w : World) (h : WArg w ao b off L) (hL : L.length ≤ 60) (hx : ∀ x ∈ L, x.2.1.length ≤ 40) (hT : TabOk w) :
    Calls Tryd.prog 35 #[.slice ao L.length cap] w (JoinPost L w) := join_long ao b off cap L w h (by omega) hx hT
end Go.Proofs.YtmcfjlkjijaflaaDoor
