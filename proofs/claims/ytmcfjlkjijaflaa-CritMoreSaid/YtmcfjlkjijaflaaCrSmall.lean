/-
  The law's own small; what is said of the program.
-/
import Derived.Test.YtmcfjlkjijaflaaRcCheck
namespace Go.Proofs.Ytmcfjlkjijaflaa
open Go.RowKit

/-- Up to 20 ops, of numbers up to 2^50? -/
def smallR (L : List Opn) : Bool := decide (L.length ≤ 20) && L.all (fun o => decide (o.2.1 ≤ 1125899906842624) && decide (-1125899906842624 ≤ o.2.1))
/-- What is said of the program's Check, and of awake. Good: what memory must bear. -/
structure CrSaid where
  Good : World → Prop
  keep : ∀ {w w' : World}, Good w → Below w.heap.size w w' → Good w'
  check : ∀ (f : Bool) (ao : Option Addr) (b off cap : Nat) (L : List Opn) (ao2 : Option Addr) (b2 off2 cap2 : Nat) (locks : List Lk) (progs : Int) (w : World), OArg w ao b off L → LArg w ao2 b2 off2 locks → (∀ x ∈ L, small x.1) → smallR L = true → locks.length ≤ 100 → small progs → Good w →
    Calls Try.prog 7 #[prgV f ao L.length cap, .slice ao2 locks.length cap2, .int .i64 progs] w (CkP (checkR (f, L) locks progs) w)
  awake : ∀ w, Good w → Calls Try.prog 5 #[] w fun e w' => e = .returned (.bool true) ∧ Below w.heap.size w w'
set_option maxRecDepth 100000 in
set_option maxHeartbeats 1600000 in
theorem small_any (f : Bool) (ao : Option Addr) (b off cap : Nat) (L : List Opn) (w : World) (h : OArg w ao b off L) :
    Calls Try.prog 6 #[prgV f ao L.length cap] w fun e w' => e = .returned (.bool (smallR L)) ∧ Below w.heap.size w w' := by
  have HA := Lib.hid h
  obtain ⟨n, hn⟩ : ∃ n, L.length = n := ⟨_, rfl⟩
  have HN := Lib.hid hn
  by_cases h20 : n ≤ 20
  · obtain ⟨r, hr⟩ : ∃ r, smallR L = r := ⟨_, rfl⟩
    have HR := Lib.hid hr
    rw [hr, hn]
    have g1 : ¬ (20 : Int) < n := by omega
    clear h hn hr
    go_enter Try.func6, Try.ntmps6
    go_wp2
    go_loopw [12] (fun s wr => ∃ i : Nat, s = .int .i64 (i : Nat) ∧ i ≤ n ∧ Hid (Below w.heap.size w wr) ∧ Hid (∀ j (hj : j < L.length), j < i → (decide ((L[j]).2.1 ≤ 1125899906842624) && decide (-1125899906842624 ≤ (L[j]).2.1)) = true)) (fun s _ => n - (intOf s).toNat)
    case atStart => exact ⟨0, rfl, Nat.zero_le _, (Below.refl _ w).alloc (Nat.le_refl _) _, fun j _ hj => absurd hj (Nat.not_lt_zero _)⟩
    case round =>
      obtain ⟨i, rfl, hi, HB, HO⟩ := hrel
      by_cases hlt : i < n
      · have hiL : i < L.length := by rw [HN.out]; exact hlt
        have hA := HA.out.below HB.out
        obtain ⟨rfl, hbl⟩ := hA.at_ (by omega)
        obtain ⟨x0, x1, x2⟩ := hA.cells i hiL
        obtain ⟨⟨k, a, c⟩, hx⟩ : ∃ x, L[i] = x := ⟨_, rfl⟩
        rw [hx] at x0 x1 x2
        simp only at x0 x1 x2
        have HX := Lib.hid hx
        have HB2 := Lib.hid (HB.out.alloc HB.out.size (.cells #[.int .i64 k, .int .i64 a, .int .i64 c] 38))
        have i0 : (0 : Int) ≤ i := by omega
        have i1 : (i : Int) < n := by omega
        clear hx hA
        by_cases ha : a ≤ 1125899906842624
        · by_cases hb : -1125899906842624 ≤ a
          · have HO2 : Hid (∀ j (hj : j < L.length), j < i + 1 → (decide ((L[j]).2.1 ≤ 1125899906842624) && decide (-1125899906842624 ≤ (L[j]).2.1)) = true) := Lib.hid (fun j hj hji => by
              rcases Nat.lt_or_ge j i with h | h
              · exact HO.out j hj h
              · obtain rfl : j = i := by omega
                rw [HX.out]
                simp [ha, hb])
            go_wp2
            go_roundw
            case rel => exact ⟨i + 1, by go_num, by omega, HB2, HO2⟩
            case measure => simp [intOf]; omega
          · have HE : Hid (r = false) := Lib.hid (HR.out.symm.trans (by
              unfold smallR
              rw [Bool.and_eq_false_iff]
              right
              rw [List.all_eq_false]
              exact ⟨_, List.getElem_mem hiL, by rw [HX.out]; simp; omega⟩))
            go_wp2
            go_ret
            exact ⟨congrArg (fun x => Ending.returned (.bool x)) HE.out.symm, HB2.out⟩
        · have HE : Hid (r = false) := Lib.hid (HR.out.symm.trans (by
            unfold smallR
            rw [Bool.and_eq_false_iff]
            right
            rw [List.all_eq_false]
            exact ⟨_, List.getElem_mem hiL, by rw [HX.out]; simp; omega⟩))
          go_wp2
          go_ret
          exact ⟨congrArg (fun x => Ending.returned (.bool x)) HE.out.symm, HB2.out⟩
      · have HE : Hid (r = true) := Lib.hid (HR.out.symm.trans (by
          unfold smallR
          rw [Bool.and_eq_true, decide_eq_true_eq, List.all_eq_true]
          refine ⟨by rw [HN.out]; exact h20, fun o ho => ?_⟩
          obtain ⟨j, hj, rfl⟩ := List.getElem_of_mem ho
          exact HO.out j hj (by have := HN.out; omega)))
        go_wp2
        go_ret
        exact ⟨congrArg (fun x => Ending.returned (.bool x)) HE.out.symm, HB.out⟩
  · have e : smallR L = false := by
      unfold smallR
      rw [Bool.and_eq_false_iff]
      left
      rw [hn]
      exact decide_eq_false h20
    rw [e, hn]
    have g1 : (20 : Int) < n := by omega
    clear h hn e
    go_enter Try.func6, Try.ntmps6
    go_wp2
    go_ret
    exact ⟨rfl, (Below.refl _ w).alloc (Nat.le_refl _) _⟩
theorem small_len {L : List Opn} (h : smallR L = true) : L.length ≤ 20 := by
  unfold smallR at h
  rw [Bool.and_eq_true, decide_eq_true_eq] at h
  exact h.1
end Go.Proofs.Ytmcfjlkjijaflaa
