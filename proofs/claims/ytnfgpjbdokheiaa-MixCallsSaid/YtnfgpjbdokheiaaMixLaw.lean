/-
  The laws of layer 7: awake, MixApart.
-/
import Derived.Test.YtnfgpjbdokheiaaMixOwn
namespace Go.Proofs.Ytnfgpjbdokheiaa
open Go.RowKit

/-- What is known of the program's Order. -/
def OrdSaid : Prop := ∀ (seed : Nat) (n : Int) (w : World), seed < 18446744073709551616 →
    Calls Try.prog 10 #[.int .u64 seed, .int .i64 n] w fun e w' => ∃ v, e = .returned v ∧ w'.ownsRow w.heap.size 3 1 v (min (max n 0) 64).toNat (intsOf (orderOf seed n)) ∧ Below w.heap.size w w'

theorem ord_shape {w w' : World} {v : Value} {M : Nat} {L : List Int} (h : w'.ownsRow w.heap.size 3 1 v M (intsOf L)) : ∃ a cap, v = .slice a M cap := by
  obtain ⟨a, cap, rfl, _, _⟩ := ownsRow_shape h
  exact ⟨a, cap, rfl⟩

set_option maxRecDepth 100000 in
set_option maxHeartbeats 800000 in
theorem awake7 (hO : OrdSaid) (w : World) : Calls Try.prog 5 #[] w fun e w' => e = .returned (.bool true) ∧ Below w.heap.size w w' := by
  obtain ⟨z, hz⟩ : ∃ z, mixN 0 = z := ⟨_, rfl⟩
  have hz0 : z ≠ 0 := by rw [← hz]; decide
  have HM := Lib.hid (fun W => mix_any 0 W)
  have HR := Lib.hid (fun W => rmix_any 0 W)
  rw [hz] at HM HR
  have HB := Lib.hid (fun W => buc_any 5 1 W (by omega))
  have HO := Lib.hid (fun W => hO 3 4 W (by decide))
  have b1 : bucI 5 1 = 0 := by decide
  rw [b1] at HB
  have z1 : ((z : Int) != 0) = true := by simpa using hz0
  have z2 : ((z : Int) == (z : Int)) = true := by simp
  clear hz hz0 b1
  go_enter Try.func5, Try.ntmps5
  go_wp2_with fail
  refine (HM.out _).mono ?_
  rintro e w1 ⟨rfl, rfl⟩
  go_wp2_with fail
  refine (HR.out _).mono ?_
  rintro e w1 ⟨rfl, n1, rfl⟩
  go_wp2_with fail
  refine (HM.out _).mono ?_
  rintro e w1 ⟨rfl, rfl⟩
  go_wp2_with fail
  refine (HB.out _).mono ?_
  rintro e w1 ⟨rfl, rfl⟩
  go_wp2_with fail
  refine (HO.out _).mono ?_
  rintro e w1 ⟨v, rfl, hown, hbel⟩
  obtain ⟨a, cap, rfl⟩ := ord_shape hown
  have HB1 := Lib.hid hbel
  clear hown hbel
  go_wp2
  go_ret
  exact ⟨rfl, (below_drewN (Below.refl _ w) n1).trans HB1.out⟩

/-- What MixApart answers. -/
theorem apart_true (x y : Nat) (hx : x < 18446744073709551616) (hy : y < 18446744073709551616) : (decide (mixN x = mixN y) == decide (x = y)) = true := by
  by_cases h : x = y
  · subst h; simp
  · have : ¬ mixN x = mixN y := fun e => h (mixN_apart hx hy e)
    simp [h, this]
set_option maxRecDepth 100000 in
set_option maxHeartbeats 800000 in
theorem apart_any (hO : OrdSaid) (x y n : Nat) (w : World) (hx : x < 18446744073709551616) (hy : y < 18446744073709551616) (hn : n < 65536) :
    Calls Try.prog 4 #[.int .u64 x, .int .u64 y, .int .u16 n] w fun e w' => e = .returned (.bool true) ∧ Below w.heap.size w w' := by
  have HA := Lib.hid (fun W => awake7 hO W)
  have HMx := Lib.hid (fun W => mix_any x W)
  have HMy := Lib.hid (fun W => mix_any y W)
  have hk := bucI_range
  obtain ⟨zx, hzx⟩ : ∃ z, mixN x = z := ⟨_, rfl⟩
  obtain ⟨zy, hzy⟩ : ∃ z, mixN y = z := ⟨_, rfl⟩
  have HS := Lib.hid (fun (p : Int) => hk p (n : Int))
  have HB := Lib.hid (fun W (p : Int) => buc_any p (n : Int) W (by omega))
  have hap := apart_true x y hx hy
  rw [hzx, hzy] at hap
  rw [hzx] at HMx
  rw [hzy] at HMy
  have hxy : ((x : Int) == (y : Int)) = decide (x = y) := by
    by_cases h : x = y
    · subst h; simp
    · rw [decide_eq_false h, beq_eq_false_iff_ne]; omega
  have hzz : ((zx : Int) == (zy : Int)) = decide (zx = zy) := by
    by_cases h : zx = zy
    · subst h; simp
    · rw [decide_eq_false h, beq_eq_false_iff_ne]; omega
  obtain ⟨b1, hb1⟩ : ∃ b, decide (x = y) = b := ⟨_, rfl⟩
  obtain ⟨b2, hb2⟩ : ∃ b, decide (zx = zy) = b := ⟨_, rfl⟩
  rw [hb1] at hxy hap
  rw [hb2] at hzz hap
  obtain rfl : b2 = b1 := by simpa using hap
  have eb : (b2 == b2) = true := by simp
  clear hk hzx hzy hap hb1 hb2
  go_enter Try.func4, Try.ntmps4
  go_wp2_with fail
  refine (HA.out _).mono ?_
  rintro e w1 ⟨rfl, hb1⟩
  have HB1 := Lib.hid hb1
  clear hb1
  go_wp2_with fail
  refine (HB.out _ _).mono ?_
  rintro e w2 ⟨rfl, rfl⟩
  obtain ⟨s0, s1, s2⟩ := HS.out (wrap64 (x : Int))
  obtain ⟨q, hq⟩ : ∃ q, bucI (wrap64 (x : Int)) (n : Int) = q := ⟨_, rfl⟩
  rw [hq] at s0 s1 s2 ⊢
  clear hq
  by_cases h0 : n = 0
  · subst h0
    obtain rfl : q = 0 := s2 (by omega)
    clear s1 s2
    go_wp2_with fail
    refine (HMx.out _).mono ?_
    rintro e w2 ⟨rfl, rfl⟩
    go_wp2_with fail
    refine (HMy.out _).mono ?_
    rintro e w2 ⟨rfl, rfl⟩
    go_wp2
    go_ret
    exact ⟨rfl, HB1.out⟩
  · have hlt : q < n := by omega
    have d1 : decide (q < (n : Int)) = true := by simpa using hlt
    have d0 : decide (0 ≤ q) = true := by simpa using s0
    clear s1 s2
    go_wp2_with fail
    refine (HMx.out _).mono ?_
    rintro e w2 ⟨rfl, rfl⟩
    go_wp2_with fail
    refine (HMy.out _).mono ?_
    rintro e w2 ⟨rfl, rfl⟩
    go_wp2
    go_ret
    exact ⟨rfl, HB1.out⟩
end Go.Proofs.Ytnfgpjbdokheiaa
