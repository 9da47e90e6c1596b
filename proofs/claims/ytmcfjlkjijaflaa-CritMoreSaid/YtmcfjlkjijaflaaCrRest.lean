/-
  slices.ContainsFunc over ops, with the program's rests.
-/
import Derived.Test.YtmcfjlkjijaflaaCrOps
namespace Go.Proofs.Ytmcfjlkjijaflaa
open Go.RowKit

abbrev restV : Value := .func (.func 16) #[] #[]
set_option maxRecDepth 100000 in
set_option maxHeartbeats 1600000 in
theorem indexrest_any (ao : Option Addr) (b off cap : Nat) (L : List Opn) (w : World) (h : OArg w ao b off L) (hm : L.length ≤ 100000) :
    Calls Try.prog 28 #[.slice ao L.length cap, restV] w fun e w' => (∃ r : Int, e = .returned (.int .i64 r) ∧ decide (0 ≤ r) = L.any timeR) ∧ Below w.heap.size w w' := by
  have HA := Lib.hid h
  have HR := Lib.hid (fun k a c V => crests_any k a c V)
  obtain ⟨n, hn⟩ : ∃ n, L.length = n := ⟨_, rfl⟩
  have HN := Lib.hid hn
  rw [hn] at hm ⊢
  clear h hn
  go_enter Try.func28, Try.ntmps28
  go_wp2
  go_loopw [8] (fun s wr => ∃ i : Nat, s = .int .i64 (i : Nat) ∧ i ≤ n ∧ Hid (Below w.heap.size w wr) ∧ Hid (∀ j (hj : j < L.length), j < i → timeR L[j] = false)) (fun s _ => n - (intOf s).toNat)
  case atStart => exact ⟨0, rfl, Nat.zero_le _, Below.refl _ w, fun j _ hj => absurd hj (Nat.not_lt_zero _)⟩
  case round =>
    obtain ⟨i, rfl, hi, HB, HO⟩ := hrel
    by_cases hlt : i < n
    · have hiL : i < L.length := by rw [HN.out]; exact hlt
      have hA := HA.out.below HB.out
      obtain ⟨rfl, hbl⟩ := hA.at_ (by omega)
      obtain ⟨x0, x1, x2⟩ := hA.cells i hiL
      obtain ⟨⟨k, a, c⟩, hx⟩ : ∃ x, L[i] = x := ⟨_, rfl⟩
      rw [hx] at x0 x1 x2
      simp only at x0 x1 x2
      have HX := Lib.hid hx
      have i0 : (0 : Int) ≤ i := by omega
      have i1 : (i : Int) < n := by omega
      have i2 : IntKind.i64.wrap ((i : Int) + 1) = (i : Int) + 1 := by rw [IntKind.wrap_i64]; omega
      have HRK := Lib.hid (fun V => HR.out k a c V)
      obtain ⟨q, hq⟩ : ∃ q, timeR (k, a, c) = q := ⟨_, rfl⟩
      have HQ := Lib.hid hq
      rw [hq] at HRK
      clear hx hq hA
      cases q with
      | true =>
        have HE : Hid (L.any timeR = true) := Lib.hid (by
          rw [List.any_eq_true]
          exact ⟨_, List.getElem_mem hiL, by rw [HX.out]; exact HQ.out⟩)
        go_wp2_with fail
        with_reducible refine (HRK.out _).mono ?_
        rintro e w1 ⟨rfl, hb⟩
        have HB1 := Lib.hid (HB.out.trans (hb.mono HB.out.size))
        clear hb
        go_wp2
        go_ret
        exact ⟨⟨_, rfl, by rw [HE.out]; exact decide_eq_true i0⟩, HB1.out⟩
      | false =>
        have HO2 : Hid (∀ j (hj : j < L.length), j < i + 1 → timeR L[j] = false) := Lib.hid (fun j hj hji => by
          rcases Nat.lt_or_ge j i with h | h
          · exact HO.out j hj h
          · obtain rfl : j = i := by omega
            rw [HX.out]
            exact HQ.out)
        go_wp2_with fail
        with_reducible refine (HRK.out _).mono ?_
        rintro e w1 ⟨rfl, hb⟩
        have HB1 := Lib.hid (HB.out.trans (hb.mono HB.out.size))
        clear hb
        go_wp2
        go_roundw
        case rel => exact ⟨i + 1, by go_num, by omega, HB1, HO2⟩
        case measure => simp [intOf]; omega
    · have HE : Hid (L.any timeR = false) := Lib.hid (by
        rw [List.any_eq_false]
        intro o ho
        obtain ⟨j, hj, rfl⟩ := List.getElem_of_mem ho
        rw [HO.out j hj (by have := HN.out; omega)]
        decide)
      go_wp2
      go_ret
      exact ⟨⟨_, rfl, by rw [HE.out]; rfl⟩, HB.out⟩
set_option maxRecDepth 100000 in
theorem containsrest_any (ao : Option Addr) (b off cap : Nat) (L : List Opn) (w : World) (h : OArg w ao b off L) (hm : L.length ≤ 100000) :
    Calls Try.prog 15 #[.slice ao L.length cap, restV] w fun e w' => e = .returned (.bool (L.any timeR)) ∧ Below w.heap.size w w' := by
  have HI := Lib.hid (indexrest_any ao b off cap L w h hm)
  obtain ⟨n, hn⟩ : ∃ n, L.length = n := ⟨_, rfl⟩
  obtain ⟨q, hq⟩ : ∃ q, L.any timeR = q := ⟨_, rfl⟩
  rw [hn, hq] at HI
  rw [hn, hq]
  clear h hn hq hm
  go_enter Try.func15, Try.ntmps15
  go_wp2_with fail
  with_reducible refine HI.out.mono ?_
  rintro e w1 ⟨⟨r, rfl, hr⟩, hb⟩
  have HR := Lib.hid hr
  have HB := Lib.hid hb
  clear hr hb
  go_wp2
  go_ret
  exact ⟨by rw [← HR.out]; rfl, HB.out⟩
end Go.Proofs.Ytmcfjlkjijaflaa
