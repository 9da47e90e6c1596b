/-
  The law TokenBack.
-/
import Derived.Test.YtalnejbpgollkaaDoorTkAwake
namespace Go.Proofs.YtalnejbpgollkaaDoor
open Go.RowKit

theorem join_cases (L : List Wd) : (joinA L).2 ≠ 0 ∨ ((joinA L).2 = 0 ∧ ∃ ws, scanA (joinA L).1 = (ws, 0, 0) ∧ sameL ws L) := by
  unfold joinA
  cases h : joinF L [] with
  | none => exact .inl (by simp)
  | some s =>
    simp only
    by_cases h8 : 8000 < s.length
    · rw [if_pos h8]
      exact .inl (by decide)
    · rw [if_neg h8]
      obtain ⟨ws, h1, h2⟩ := scan_join h
      refine .inr ⟨rfl, ws, ?_, h2⟩
      unfold scanA
      rw [if_neg h8, h1]
theorem below_drewN {B : Nat} {a b : World} (h : Below B a b) (n : Nat) : Below B a (b.drewN n) := ⟨h.os, h.tape, h.output, h.size, h.block⟩
theorem sameL_get {a b : List Wd} (h : sameL a b) (i : Nat) (h1 : i < a.length) (h2 : i < b.length) : sameR a[i] b[i] := by
  have := sameL_at h i h1
  simpa [List.getD_eq_getElem?_getD, h1, h2] using this

set_option maxRecDepth 100000 in
set_option maxHeartbeats 6400000 in
theorem back_walk (ao : Option Addr) (b off cap : Nat) (L : List Wd) (w : World) (h : WArg w ao b off L) (hm : L.length ≤ maxLen) (hT : TabOk w) :
    Calls Tryd.prog 3 #[.slice ao L.length cap] w fun e w' => e = .returned (.bool true) ∧ Below w.heap.size w w' := by
  have HAW := Lib.hid (awake9 w hT)
  have HA := Lib.hid h
  have HT := Lib.hid hT
  have hJC := join_cases L
  have HSM := Lib.hid (fun (ws : List Wd) (hs : sameL ws L) => sameL_len hs)
  obtain ⟨n, hn⟩ : ∃ n, L.length = n := ⟨_, rfl⟩
  have HN := Lib.hid hn
  rw [hn] at hm ⊢
  unfold maxLen at hm
  have HJC := Lib.hid hJC
  clear h hT hn hJC
  by_cases h60 : n ≤ 60
  · go_enter Tryd.func3, Tryd.ntmps3
    go_wp2_with fail
    with_reducible refine HAW.out.mono ?_
    rintro e w1 ⟨rfl, hb1⟩
    have HB1 := Lib.hid hb1
    clear hb1
    go_wp2
    go_loopw [25] (fun i' wr => ∃ i : Nat, i ≤ n ∧ i' = .int .i64 i ∧ Hid (∀ j (hj : j < L.length), j < i → L[j].2.1.length ≤ 40) ∧ Hid (Below w.heap.size w wr)) (fun i' _ => n - (intOf i').toNat)
    case atStart => exact ⟨0, Nat.zero_le _, rfl, fun j _ hj => by omega, HB1⟩
    case round =>
      obtain ⟨i, hi, rfl, HX, HB⟩ := hrel
      by_cases hlt : i < n
      · have hlt' : i < L.length := by rw [HN.out]; exact hlt
        have ha := HA.out.below HB.out
        obtain ⟨rfl, hbl⟩ := ha.at_ (by omega)
        obtain ⟨c0, c1, c2, c3⟩ := ha.cells i hlt'
        have hsz : (⟨L[i].2.1.toArray⟩ : ByteArray).size = L[i].2.1.length := by rw [Lib.size_eq]
        obtain ⟨tx, htx⟩ : ∃ tx : ByteArray, ⟨L[i].2.1.toArray⟩ = tx := ⟨_, rfl⟩
        rw [htx] at c1 hsz
        obtain ⟨k, hk⟩ : ∃ k, L[i].1 = k := ⟨_, rfl⟩
        obtain ⟨m, hm'⟩ : ∃ m, L[i].2.2.1 = m := ⟨_, rfl⟩
        obtain ⟨p, hp⟩ : ∃ p, L[i].2.2.2 = p := ⟨_, rfl⟩
        rw [hk] at c0
        rw [hm'] at c2
        rw [hp] at c3
        have HSZ := Lib.hid hsz
        have hle := HB.out.size
        clear htx hk hm' hp hsz ha
        by_cases h40 : tx.size ≤ 40
        · have HX2 : Hid (∀ j (hj : j < L.length), j < i + 1 → L[j].2.1.length ≤ 40) := by
            intro j hj hji
            by_cases hji' : j = i
            · subst hji'
              rw [← HSZ.out]
              exact h40
            · exact HX.out j hj (by omega)
          go_wp2
          go_roundw
          case rel => exact ⟨i + 1, by omega, by go_num, HX2, HB.out.alloc hle _⟩
          case measure => simp [intOf]; omega
        · go_wp2
          go_ret
          exact ⟨rfl, HB.out.alloc hle _⟩
      · obtain rfl : i = n := by omega
        have HX2 : Hid (∀ x ∈ L, x.2.1.length ≤ 40) := by
          intro x hx
          obtain ⟨j, hj, rfl⟩ := List.getElem_of_mem hx
          exact HX.out j hj (by rw [← HN.out]; exact hj)
        have hle := HB.out.size
        have hj1 := HN.out ▸ join_any ao b off cap L wr (HA.out.below HB.out) (by rw [HN.out]; exact h60) HX2.out (HT.out.below HB.out)
        have hj2 := fun (W : World) (hW : Below w.heap.size w W) => HN.out ▸ rjoin_any ao b off cap L W (HA.out.below hW) (by rw [HN.out]; exact h60) HX2.out
        unfold JoinPost at hj1 hj2
        have hjc := HJC.out
        obtain ⟨l, hl⟩ : ∃ l, (joinA L).1 = l := ⟨_, rfl⟩
        obtain ⟨q, hq⟩ : ∃ q, (joinA L).2 = q := ⟨_, rfl⟩
        rw [hl, hq] at hj1 hj2 hjc
        have HSC := Lib.hid (fun W => scan_any ⟨l.toArray⟩ W)
        have HJC2 := Lib.hid hjc
        have hxl : (⟨l.toArray⟩ : ByteArray).data.toList = l := rfl
        rw [hxl] at HSC
        obtain ⟨x, hx⟩ : ∃ x : ByteArray, ⟨l.toArray⟩ = x := ⟨_, rfl⟩
        rw [hx] at hj1 hj2 HSC
        have HJ1 := Lib.hid hj1
        have HJ2 := Lib.hid hj2
        have hqz : (q != 0) = true ∨ ((q != 0) = false ∧ ∃ ws, scanA l = (ws, 0, 0) ∧ sameL ws L) := by
          rcases hjc with h | ⟨h1, h2⟩
          · exact .inl (by simpa using h)
          · exact .inr ⟨by simp [h1], h2⟩
        have HQZ := Lib.hid hqz
        clear hj1 hj2 hl hq hx hxl hjc hqz
        go_wp2_with fail
        with_reducible refine HJ1.out.mono ?_
        rintro e w2 ⟨rfl, hb2⟩
        have HB2 := Lib.hid (HB.out.trans (hb2.mono hle))
        clear hb2
        go_wp2_with fail
        with_reducible refine (HJ2.out _ HB2.out).mono ?_
        rintro e w3 ⟨rfl, hb3⟩
        have HB3 := Lib.hid (HB2.out.trans (hb3.mono HB2.out.size))
        clear hb3 HJ1 HJ2
        go_wp2_with fail
        go_loopw [54] (fun i' wr => ∃ j : Nat, j ≤ i ∧ i' = .int .i64 j ∧ Hid (Below w.heap.size w wr)) (fun i' _ => i - (intOf i').toNat)
        case atStart => exact ⟨0, Nat.zero_le _, rfl, HB3⟩
        case round =>
          obtain ⟨j, hj, rfl, HBj⟩ := hrel
          rename World => wj
          by_cases hlt2 : j < i
          · have hlt' : j < L.length := by rw [HN.out]; exact hlt2
            have ha := HA.out.below HBj.out
            obtain ⟨rfl, hbl⟩ := ha.at_ (by omega)
            obtain ⟨c0, c1, c2, c3⟩ := ha.cells j hlt'
            have hx40 := HX2.out L[j] (List.getElem_mem hlt')
            have hsz : (⟨L[j].2.1.toArray⟩ : ByteArray).size = L[j].2.1.length := by rw [Lib.size_eq]
            have hle2 := HBj.out.size
            obtain ⟨⟨k, tl, m, p⟩, hxe⟩ : ∃ x, L[j] = x := ⟨_, rfl⟩
            rw [hxe] at c0 c1 c2 c3 hx40 hsz
            simp only at c0 c1 c2 c3 hx40 hsz
            have hT1 := fun W => text_any k ⟨tl.toArray⟩ m p W (by rw [hsz]; unfold maxLen; omega)
            have hT2 := fun W => rtext_any k ⟨tl.toArray⟩ m p W (by rw [hsz]; omega)
            obtain ⟨tx, htx⟩ : ∃ tx : ByteArray, ⟨tl.toArray⟩ = tx := ⟨_, rfl⟩
            rw [htx] at c1 hT1 hT2
            obtain ⟨y, hy⟩ : ∃ y : ByteArray, ⟨(textA (k, tx.data.toList, m, p)).1.toArray⟩ = y := ⟨_, rfl⟩
            obtain ⟨g, hg⟩ : ∃ g, (textA (k, tx.data.toList, m, p)).2 = g := ⟨_, rfl⟩
            rw [hy, hg] at hT1 hT2
            have HT1 := Lib.hid hT1
            have HT2 := Lib.hid hT2
            have HTW := Lib.hid (HT.out.below (HBj.out.alloc hle2 (.cells #[.int .i64 k, .string tx, .int .i64 m, .int .i64 p] 25)))
            clear hT1 hT2 hxe hsz htx hy hg ha hx40 hlt'
            go_wp2_with fail
            with_reducible refine (HT1.out _ HTW.out).mono ?_
            rintro e w4 ⟨rfl, hb4⟩
            obtain ⟨hc4, hf4⟩ := bcell hb4
            have HB4 := Lib.hid ((HBj.out.alloc hle2 (.cells #[.int .i64 k, .string tx, .int .i64 m, .int .i64 p] 25)).trans (hb4.mono (by simp; omega)))
            clear hb4
            go_wp2_with fail
            with_reducible refine (HT2.out _).mono ?_
            rintro e w5 ⟨rfl, hb5⟩
            have HB5 := Lib.hid (HB4.out.trans (hb5.mono HB4.out.size))
            clear hb5 hc4 hf4
            go_wp2
            go_roundw
            case rel => exact ⟨j + 1, by omega, by go_num, HB5⟩
            case measure => simp [intOf]; omega
          · rcases HQZ.out with hq0 | ⟨hq0, hws⟩
            · go_wp2
              go_ret
              exact ⟨rfl, HBj.out⟩
            · obtain ⟨ws, hw1, hw2⟩ := hws
              have HW1 := Lib.hid hw1
              have HW2 := Lib.hid hw2
              clear hw1 hw2
              go_wp2_with fail
              with_reducible refine (HSC.out _).mono ?_
              rintro e w4 ⟨v, he, hr, hb4⟩
              rw [HW1.out] at he hr
              subst he
              obtain ⟨a2, b2, cap2, rfl, hA2⟩ := WArg.of_row hr
              have hB4 := HBj.out.trans (hb4.mono HBj.out.size)
              have hlen : ws.length = L.length := sameL_len HW2.out
              have hS := same_any a2 ao b2 0 b off cap2 cap ws L false w4 hA2 (HA.out.below hB4) hlen (by rw [hlen, HN.out]; omega) (fun i h1 h2 => ⟨sameL_get HW2.out i h1 h2, fun h => by cases h⟩)
              rw [hlen, HN.out] at hS ⊢
              have HS := Lib.hid hS
              have HB4 := Lib.hid hB4
              clear hr hb4 hA2 hB4 hlen hS
              go_wp2_with fail
              with_reducible refine HS.out.mono ?_
              rintro e w5 ⟨rfl, d, rfl⟩
              go_wp2
              go_ret
              exact ⟨rfl, below_drewN HB4.out d⟩
  · go_enter Tryd.func3, Tryd.ntmps3
    go_wp2_with fail
    with_reducible refine HAW.out.mono ?_
    rintro e w1 ⟨rfl, hb1⟩
    have HB1 := Lib.hid hb1
    clear hb1
    go_wp2
    go_ret
    exact ⟨rfl, HB1.out⟩
end Go.Proofs.YtalnejbpgollkaaDoor
