/-
  The document's digits of a number.
-/
import Derived.Test.YtalnejbpgollkaaDoorTkRef
namespace Go.Proofs.YtalnejbpgollkaaDoor
open Go.RowKit Go.Shelf

/-- One byte as a text. -/
theorem conv_one (W : World) (B : Nat) (d : Nat) (hd : d < 10) (h : W.cell? ⟨B, 0, none⟩ = some (.int .u8 (48 + (d : Int)))) :
    (convert 40 9 (.slice (some ⟨B, 0, none⟩) 1 1)).run Tryd.prog W = .ok (.string ⟨[UInt8.ofNat (48 + d)].toArray⟩) W := by
  refine run_convert_bytes_back W _ _ 5 ⟨B, 0, none⟩ 1 [UInt8.ofNat (48 + d)] Tryd.underlying40 Tryd.underlying5 Tryd.underlying9 fun j hj => ?_
  obtain rfl : j = 0 := by simpa using hj
  rw [Addr.add_lit, h]
  simp only [List.getElem_cons_zero, digit_nat hd]
  rfl
theorem str_add (x y : List By) (h : x.length + y.length ≤ 1000000) (W : World) : (Op.stringOp .add ⟨x.toArray⟩ ⟨y.toArray⟩).run Tryd.prog W = .ok (.string ⟨(x ++ y).toArray⟩) W := by
  rw [run_string_add_sum W _ _ (by simp only [ByteArray.size, List.size_toArray]; omega), ByteArray.mk_append_mk]

set_option maxHeartbeats 1600000 in
theorem rdig_small (n : Nat) (hn : n < 10) (w : World) : Calls Tryd.prog 19 #[.int .i64 n] w fun e w' => e = .returned (.string ⟨(digitsR n).toArray⟩) ∧ Below w.heap.size w w' := by
  rw [digits_small hn]
  have hw : IntKind.u8.wrap (48 + (n : Int)) = 48 + (n : Int) := by rw [IntKind.wrap_u8]; omega
  have hcv := conv_one (w.alloc (.cells #[.int .u8 (48 + (n : Int))] 5)) w.heap.size n hn (one_cell w _ _)
  obtain ⟨r, hr⟩ : ∃ r : ByteArray, ⟨[UInt8.ofNat (48 + n)].toArray⟩ = r := ⟨_, rfl⟩
  rw [hr] at hcv ⊢
  clear hr
  go_enter Tryd.func19, Tryd.ntmps19
  go_wp2
  go_ret
  exact ⟨rfl, (Below.refl _ _).alloc (Nat.le_refl _) _⟩

set_option maxHeartbeats 3200000 in
theorem rdig_great (n : Nat) (hn : ¬ n < 10) (h9 : n ≤ 999999999) (ih : ∀ w, Calls Tryd.prog 19 #[.int .i64 (n / 10 : Nat)] w fun e w' => e = .returned (.string ⟨(digitsR (n / 10)).toArray⟩) ∧ Below w.heap.size w w') (w : World) :
    Calls Tryd.prog 19 #[.int .i64 n] w fun e w' => e = .returned (.string ⟨(digitsR n).toArray⟩) ∧ Below w.heap.size w w' := by
  rw [digits_great hn]
  have hm := Nat.mod_lt n (show 0 < 10 by omega)
  have hlen := digits_len 8 (n / 10) (by omega)
  have hq : ((n / 10 : Nat) : Int) = (n : Int) / 10 := by omega
  have hr : ((n % 10 : Nat) : Int) = (n : Int) % 10 := by omega
  have hcv := fun W B => conv_one W B (n % 10) hm
  have hadd := fun W => str_add (digitsR (n / 10)) [UInt8.ofNat (48 + n % 10)] (by simp; omega) W
  obtain ⟨r, hr1⟩ : ∃ r : ByteArray, ⟨[UInt8.ofNat (48 + n % 10)].toArray⟩ = r := ⟨_, rfl⟩
  obtain ⟨x, hx1⟩ : ∃ x : ByteArray, ⟨(digitsR (n / 10)).toArray⟩ = x := ⟨_, rfl⟩
  obtain ⟨y, hy1⟩ : ∃ y : ByteArray, ⟨(digitsR (n / 10) ++ [UInt8.ofNat (48 + n % 10)]).toArray⟩ = y := ⟨_, rfl⟩
  rw [hr1] at hcv hadd
  rw [hx1] at hadd ih
  rw [hy1] at hadd ⊢
  rw [hq] at ih
  rw [hr] at hcv
  have IH := Lib.hid ih
  have b1 : 0 ≤ (n : Int) % 10 := by omega
  have b2 : (n : Int) % 10 ≤ 9 := by omega
  have hw : IntKind.u8.wrap (48 + (n : Int) % 10) = 48 + (n : Int) % 10 := by rw [IntKind.wrap_u8]; omega
  have hw2 : IntKind.i64.wrap (48 + (n : Int) % 10) = 48 + (n : Int) % 10 := IntWalk.i64_in _ (by omega)
  have hw3 : IntKind.i64.wrap ((n : Int) / 10) = (n : Int) / 10 := IntWalk.i64_in _ (by omega)
  have ht : (n : Int).tmod 10 = (n : Int) % 10 := Int.tmod_eq_emod_of_nonneg (by omega)
  have hn10 : decide ((n : Int) < 10) = false := by simp; omega
  clear hr1 hx1 hy1 hq hr hm hlen ih
  go_enter Tryd.func19, Tryd.ntmps19
  go_wp2_with fail
  go_region_with ((go_at_call 19; with_reducible refine (IH.out _).mono ?_; rintro e w1 ⟨rfl, hb⟩; obtain ⟨hc, hf⟩ := bcell hb))
  all_goals
    simp only [List.getElem_toArray, List.getElem_cons_succ, List.getElem_cons_zero, Act.put, List.setIfInBounds_toArray]
    simp only [List.set_cons_succ, List.set_cons_zero]
    have HB := Lib.hid hb
    clear hb hc hf
    go_wp2
    go_ret
    refine ⟨rfl, ?_⟩
    first
      | exact ((Below.refl _ w).drew.trans HB.out).alloc HB.out.size _
      | exact ((Below.refl _ w).drew.alloc (Nat.le_refl _) _).trans (HB.out.mono (by simp))

theorem rdigits_any : ∀ (n : Nat), n ≤ 999999999 → ∀ w : World, Calls Tryd.prog 19 #[.int .i64 n] w fun e w' => e = .returned (.string ⟨(digitsR n).toArray⟩) ∧ Below w.heap.size w w'
  | n, h9, w => by
    by_cases hn : n < 10
    · exact rdig_small n hn w
    · exact rdig_great n hn h9 (fun W => rdigits_any (n / 10) (by omega) W) w
termination_by n => n
decreasing_by omega
end Go.Proofs.YtalnejbpgollkaaDoor
