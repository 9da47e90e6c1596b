/-
  The document's May.
-/
import Derived.Test.YtmcfjlkjijaflaaRgMay
namespace Go.Proofs.Ytmcfjlkjijaflaa
open Go.RowKit

theorem may_from {f : Bool} {L : List Opn} {i : Nat} (hi : i < L.length) (h : opMay L[i] = false) : mayR (f, L) = false := by
  unfold mayR
  have : L.all opMay = false := by
    rw [List.all_eq_false]
    exact ⟨L[i], List.getElem_mem hi, by simp [h]⟩
  simp only [this]
  simp
theorem may_long {f : Bool} {L : List Opn} (h : 12 < L.length) : mayR (f, L) = false := by
  unfold mayR
  have : decide (L.length ≤ 12) = false := by simp; omega
  simp [this]
theorem may_all {f : Bool} {L : List Opn} {n : Nat} (hn : L.length = n) (h12 : n ≤ 12) (h : ∀ i (hi : i < L.length), opMay L[i] = true) : mayR (f, L) = decide (0 < n) := by
  unfold mayR
  have : L.all opMay = true := by
    rw [List.all_eq_true]
    intro x hx
    obtain ⟨i, hi, rfl⟩ := List.getElem_of_mem hx
    exact h i hi
  simp [this, hn, h12]
def small (x : Int) : Prop := -9223372036854775808 ≤ x ∧ x ≤ 9223372036854775807
set_option maxRecDepth 100000 in
set_option maxHeartbeats 3200000 in
theorem rmay_any (f : Bool) (ao : Option Addr) (b off cap : Nat) (L : List Opn) (w : World) (h : OArg w ao b off L) (hm : L.length ≤ 100000) (hs : ∀ x ∈ L, small x.1) :
    Calls Try.prog 9 #[prgV f ao L.length cap] w fun e w' => e = .returned (.bool (mayR (f, L))) ∧ Below w.heap.size w w' := by
  have HA := Lib.hid h
  have HS := Lib.hid hs
  obtain ⟨n, hn⟩ : ∃ n, L.length = n := ⟨_, rfl⟩
  have HN := Lib.hid hn
  rw [hn] at hm ⊢
  obtain ⟨r, hr⟩ : ∃ r, mayR (f, L) = r := ⟨_, rfl⟩
  have HR := Lib.hid hr
  rw [hr]
  clear h hs hn hr
  go_enter Try.func9, Try.ntmps9
  go_wp2
  go_loopw [3] (fun i' wr => ∃ i : Nat, i ≤ n ∧ i ≤ 12 ∧ i' = .int .i64 i ∧ Hid (Below w.heap.size w wr) ∧ wr.cell? ⟨w.heap.size, 1, none⟩ = some (.slice ao n cap) ∧ w.heap.size < wr.heap.size ∧ Hid (∀ j (hj : j < L.length), j < i → opMay L[j] = true)) (fun i' _ => n - (intOf i').toNat)
  case atStart => exact ⟨0, Nat.zero_le _, by omega, rfl, (Below.refl _ w).alloc (Nat.le_refl _) _, by simp, by simp, fun j _ hj => absurd hj (Nat.not_lt_zero _)⟩
  case round =>
    obtain ⟨i, hi, h12, rfl, HB, c1, hsz, HO⟩ := hrel
    by_cases hlt : i < n
    · by_cases hg : 11 < i
      · have HE : Hid (r = false) := Lib.hid (HR.out.symm.trans (may_long (by rw [HN.out]; omega)))
        have hg2 : (11 : Int) < i := by omega
        go_wp2
        go_ret
        exact ⟨congrArg (fun x => Ending.returned (.bool x)) HE.out.symm, HB.out⟩
      · have hlt' : i < L.length := by rw [HN.out]; exact hlt
        have ha := HA.out.below HB.out
        obtain ⟨rfl, hb⟩ := ha.at_ (by omega)
        obtain ⟨x0, x1, x2⟩ := ha.cells i hlt'
        have hk := HS.out L[i] (List.getElem_mem hlt')
        have HF := Lib.hid (fun h => may_from (f := f) hlt' h)
        have HO2 : Hid (opMay L[i] = true → ∀ j (hj : j < L.length), j < i + 1 → opMay L[j] = true) := Lib.hid (fun hm j hj hji => by
          rcases Nat.lt_or_ge j i with h | h
          · exact HO.out j hj h
          · have : j = i := by omega
            subst this
            exact hm)
        obtain ⟨⟨k, a, c⟩, hx⟩ : ∃ x, L[i] = x := ⟨_, rfl⟩
        rw [hx] at x0 x1 x2 hk HF HO2
        simp only at x0 x1 x2 hk
        have hng : ¬ (11 : Int) < i := by omega
        have HC := Lib.hid (fun W => rone_any k a c hk.1 hk.2 W)
        obtain ⟨q, hq⟩ : ∃ q, opMay (k, a, c) = q := ⟨_, rfl⟩
        rw [hq] at HF HO2
        simp only [hq] at HC
        clear hq hk hx ha
        cases q with
        | false =>
          have HE : Hid (r = false) := Lib.hid (HR.out.symm.trans (HF.out rfl))
          go_wp2_with fail
          with_reducible refine (HC.out _).mono ?_
          rintro e w1 ⟨rfl, hb2⟩
          have hle := HB.out.size
          have HB2 := Lib.hid (HB.out.trans (hb2.mono hle))
          clear hb2
          go_wp2
          go_ret
          exact ⟨congrArg (fun x => Ending.returned (.bool x)) HE.out.symm, HB2.out⟩
        | true =>
          have HO3 := Lib.hid (HO2.out rfl)
          go_wp2_with fail
          with_reducible refine (HC.out _).mono ?_
          rintro e w1 ⟨rfl, hb2⟩
          have hle := HB.out.size
          have HB2 := Lib.hid (HB.out.trans (hb2.mono hle))
          have c1' := (hb2.cell (p := ⟨w.heap.size, 1, none⟩) hsz).trans c1
          have hsz2 : w.heap.size < w1.heap.size := Nat.lt_of_lt_of_le hsz hb2.size
          clear hb2
          go_wp2
          go_roundw
          case rel => exact ⟨i + 1, by omega, by omega, by go_num, HB2, c1', hsz2, HO3⟩
          case measure => simp [intOf]; omega
    · have HE : Hid (r = decide (0 < n)) := Lib.hid (HR.out.symm.trans (may_all HN.out (by omega) (fun j hj => HO.out j hj (by have := HN.out; omega))))
      go_wp2
      go_ret
      refine ⟨?_, HB.out⟩
      rw [HE.out]
      refine bool_iff ?_
      simp
end Go.Proofs.Ytmcfjlkjijaflaa
