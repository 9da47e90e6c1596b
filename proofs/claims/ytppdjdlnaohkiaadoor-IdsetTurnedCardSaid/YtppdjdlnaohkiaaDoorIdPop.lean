/-
  How many bits of a number are 1: counted one by one, and by sums side by side. No program.
-/
import Derived.Test.YtppdjdlnaohkiaaDoorIdMath
namespace Go.Proofs.YtppdjdlnaohkiaaDoor

/-- How many of the bits 0 .. n - 1 of s are 1. -/
def cntB (s n : Nat) : Nat := ((List.range n).filter fun k => s.testBit k).length
theorem cnt_list (s : Nat) : (listN s).length = cntB s 64 := by simp [listN, cntB]
theorem cnt_split (a b n m : Nat) (h : a < 2 ^ n) : cntB (a + 2 ^ n * b) (n + m) = cntB a n + cntB b m := by
  unfold cntB
  rw [List.range_add, List.filter_append, List.length_append, List.filter_map, List.length_map]
  congr 2
  · refine List.filter_congr fun k hk => ?_
    have hk' : k < n := List.mem_range.1 hk
    rw [Nat.add_comm, Nat.testBit_two_pow_mul_add _ h, if_pos hk']
  · refine List.filter_congr fun k hk => ?_
    simp only [Function.comp]
    rw [Nat.add_comm a, Nat.testBit_two_pow_mul_add _ h, if_neg (by omega), Nat.add_sub_cancel_left]
theorem and8 {a c : Nat} (b d : Nat) (ha : a < 256) (hc : c < 256) : (a + 256 * b) &&& (c + 256 * d) = (a &&& c) + 256 * (b &&& d) := by
  have hac : a &&& c < 2 ^ 8 := Nat.and_lt_two_pow _ hc
  refine Nat.eq_of_testBit_eq fun k => ?_
  have e1 : a + 256 * b = 2 ^ 8 * b + a := by omega
  have e2 : c + 256 * d = 2 ^ 8 * d + c := by omega
  have e3 : (a &&& c) + 256 * (b &&& d) = 2 ^ 8 * (b &&& d) + (a &&& c) := by omega
  rw [e1, e2, e3, Nat.testBit_and, Nat.testBit_two_pow_mul_add _ ha, Nat.testBit_two_pow_mul_add _ hc, Nat.testBit_two_pow_mul_add _ hac]
  split
  · rw [Nat.testBit_and]
  · rw [Nat.testBit_and]

def nest (p : Nat → Nat) : Nat := p 0 + 256 * (p 1 + 256 * (p 2 + 256 * (p 3 + 256 * (p 4 + 256 * (p 5 + 256 * (p 6 + 256 * p 7))))))
theorem nest_and {p q : Nat → Nat} (hp : ∀ i, i < 8 → p i < 256) (hq : ∀ i, i < 8 → q i < 256) : nest p &&& nest q = nest fun i => p i &&& q i := by
  unfold nest
  rw [and8 _ _ (hp 0 (by omega)) (hq 0 (by omega)), and8 _ _ (hp 1 (by omega)) (hq 1 (by omega)), and8 _ _ (hp 2 (by omega)) (hq 2 (by omega)), and8 _ _ (hp 3 (by omega)) (hq 3 (by omega)),
    and8 _ _ (hp 4 (by omega)) (hq 4 (by omega)), and8 _ _ (hp 5 (by omega)) (hq 5 (by omega)), and8 _ _ (hp 6 (by omega)) (hq 6 (by omega))]
theorem nest_of (x : Nat) (hx : x < 18446744073709551616) : x = nest fun i => x / 256 ^ i % 256 := by
  unfold nest
  simp only [Nat.reducePow]
  omega
theorem nest_lt {p : Nat → Nat} (hp : ∀ i, i < 8 → p i < 256) : nest p < 18446744073709551616 := by
  have h0 := hp 0 (by omega); have h1 := hp 1 (by omega); have h2 := hp 2 (by omega); have h3 := hp 3 (by omega)
  have h4 := hp 4 (by omega); have h5 := hp 5 (by omega); have h6 := hp 6 (by omega); have h7 := hp 7 (by omega)
  unfold nest
  omega
theorem nest_lt68 {p : Nat → Nat} (hp : ∀ i, i < 8 → p i < 69) : nest p < 4919131752989213765 := by
  have h0 := hp 0 (by omega); have h1 := hp 1 (by omega); have h2 := hp 2 (by omega); have h3 := hp 3 (by omega)
  have h4 := hp 4 (by omega); have h5 := hp 5 (by omega); have h6 := hp 6 (by omega); have h7 := hp 7 (by omega)
  unfold nest
  omega
theorem nest_cnt {p : Nat → Nat} (hp : ∀ i, i < 8 → p i < 256) : cntB (nest p) 64 = cntB (p 0) 8 + (cntB (p 1) 8 + (cntB (p 2) 8 + (cntB (p 3) 8 + (cntB (p 4) 8 + (cntB (p 5) 8 + (cntB (p 6) 8 + cntB (p 7) 8)))))) := by
  unfold nest
  rw [show (256 : Nat) = 2 ^ 8 by decide, show (64 : Nat) = 8 + (8 + (8 + (8 + (8 + (8 + (8 + 8)))))) by decide,
    cnt_split _ _ _ _ (hp 0 (by omega)), cnt_split _ _ _ _ (hp 1 (by omega)), cnt_split _ _ _ _ (hp 2 (by omega)), cnt_split _ _ _ _ (hp 3 (by omega)),
    cnt_split _ _ _ _ (hp 4 (by omega)), cnt_split _ _ _ _ (hp 5 (by omega)), cnt_split _ _ _ _ (hp 6 (by omega))]
/-- What stands at i + 1, or nothing. -/
def upN (p : Nat → Nat) (i : Nat) : Nat := if i < 7 then p (i + 1) else 0
theorem nest_add (p q : Nat → Nat) : nest p + nest q = nest fun i => p i + q i := by
  unfold nest
  simp only [Nat.mul_add, ← Nat.mul_assoc, Nat.reduceMul]
  omega
theorem nest_shr1 (p : Nat → Nat) : nest p / 2 = nest fun i => p i / 2 + 128 * (upN p i % 2) := by
  have st : ∀ a b : Nat, (a + 256 * b) / 2 = (a / 2 + 128 * (b % 2)) + 256 * (b / 2) := fun a b => by omega
  have sm : ∀ a b : Nat, (a + 256 * b) % 2 = a % 2 := fun a b => by omega
  simp only [nest, upN, Nat.reduceLT, Nat.reduceAdd, if_true, if_false, Nat.lt_irrefl, st, sm, Nat.zero_mod, Nat.mul_zero, Nat.add_zero]
theorem nest_shr2 (p : Nat → Nat) : nest p / 4 = nest fun i => p i / 4 + 64 * (upN p i % 4) := by
  have st : ∀ a b : Nat, (a + 256 * b) / 4 = (a / 4 + 64 * (b % 4)) + 256 * (b / 4) := fun a b => by omega
  have sm : ∀ a b : Nat, (a + 256 * b) % 4 = a % 4 := fun a b => by omega
  simp only [nest, upN, Nat.reduceLT, Nat.reduceAdd, if_true, if_false, Nat.lt_irrefl, st, sm, Nat.zero_mod, Nat.mul_zero, Nat.add_zero]
theorem nest_shr4 (p : Nat → Nat) : nest p / 16 = nest fun i => p i / 16 + 16 * (upN p i % 16) := by
  have st : ∀ a b : Nat, (a + 256 * b) / 16 = (a / 16 + 16 * (b % 16)) + 256 * (b / 16) := fun a b => by omega
  have sm : ∀ a b : Nat, (a + 256 * b) % 16 = a % 16 := fun a b => by omega
  simp only [nest, upN, Nat.reduceLT, Nat.reduceAdd, if_true, if_false, Nat.lt_irrefl, st, sm, Nat.zero_mod, Nat.mul_zero, Nat.add_zero]
theorem nest_congr {p q : Nat → Nat} (h : ∀ i, i < 8 → p i = q i) : nest p = nest q := by
  unfold nest
  rw [h 0 (by omega), h 1 (by omega), h 2 (by omega), h 3 (by omega), h 4 (by omega), h 5 (by omega), h 6 (by omega), h 7 (by omega)]

def f1 (a : Nat) : Nat := (a / 2 &&& 85) + (a &&& 85)
def f2 (a : Nat) : Nat := (a / 4 &&& 51) + (a &&& 51)
def f3 (a : Nat) : Nat := (a / 16 + a) &&& 15
theorem f1_up : ∀ a : Fin 256, ∀ t : Fin 2, (a.1 / 2 + 128 * t.1) &&& 85 = a.1 / 2 &&& 85 := by decide +kernel
theorem f2_up : ∀ a : Fin 256, ∀ t : Fin 4, (a.1 / 4 + 64 * t.1) &&& 51 = a.1 / 4 &&& 51 := by decide +kernel
theorem f12_le : ∀ a : Fin 256, f1 a.1 < 256 ∧ f2 (f1 a.1) % 16 < 5 ∧ f2 (f1 a.1) < 69 ∧ f3 (f2 (f1 a.1)) = cntB a.1 8 ∧ cntB a.1 8 < 9 := by decide +kernel
theorem f3_up : ∀ a : Fin 69, ∀ t : Fin 5, (a.1 / 16 + 16 * t.1 + a.1) &&& 15 = (a.1 / 16 + a.1) &&& 15 := by decide +kernel
abbrev kN (c : Nat) : Nat → Nat := fun _ => c
theorem kN_lt {c : Nat} (h : c < 256) : ∀ i, i < 8 → kN c i < 256 := fun _ _ => h

def pop1 (x : Nat) : Nat := (x / 2 &&& 6148914691236517205) + (x &&& 6148914691236517205)
def pop2 (x : Nat) : Nat := (x / 4 &&& 3689348814741910323) + (x &&& 3689348814741910323)
def pop3 (x : Nat) : Nat := (x / 16 + x) &&& 1085102592571150095
theorem pop1_nest {p : Nat → Nat} (hp : ∀ i, i < 8 → p i < 256) : pop1 (nest p) = nest fun i => f1 (p i) := by
  unfold pop1
  rw [nest_shr1, show (6148914691236517205 : Nat) = nest (kN 85) by decide, nest_and (fun i hi => by have := hp i hi; omega) (kN_lt (by decide)), nest_and hp (kN_lt (by decide)), nest_add]
  refine nest_congr fun i hi => ?_
  have := f1_up ⟨p i, hp i hi⟩ ⟨upN p i % 2, by omega⟩
  simp only at this
  simp only [this, f1]
theorem pop2_nest {p : Nat → Nat} (hp : ∀ i, i < 8 → p i < 256) : pop2 (nest p) = nest fun i => f2 (p i) := by
  unfold pop2
  rw [nest_shr2, show (3689348814741910323 : Nat) = nest (kN 51) by decide, nest_and (fun i hi => by have := hp i hi; omega) (kN_lt (by decide)), nest_and hp (kN_lt (by decide)), nest_add]
  refine nest_congr fun i hi => ?_
  have := f2_up ⟨p i, hp i hi⟩ ⟨upN p i % 4, by omega⟩
  simp only at this
  simp only [this, f2]
theorem pop3_nest {p : Nat → Nat} (hp : ∀ i, i < 8 → p i < 69) (hq : ∀ i, i < 8 → p i % 16 < 5) : pop3 (nest p) = nest fun i => f3 (p i) := by
  have hu : ∀ i, upN p i % 16 < 5 := by
    intro i
    unfold upN
    split
    · exact hq _ (by omega)
    · omega
  unfold pop3
  rw [nest_shr4, nest_add, show (1085102592571150095 : Nat) = nest (kN 15) by decide, nest_and (fun i hi => by have := hp i hi; have := hu i; omega) (kN_lt (by decide))]
  refine nest_congr fun i hi => ?_
  have := f3_up ⟨p i, hp i hi⟩ ⟨upN p i % 16, hu i⟩
  simp only at this
  simp only [this, f3]
/-- The eight bytes' counts, added. -/
theorem fold_math {p0 p1 p2 p3 p4 p5 p6 p7 y1 y2 y3 y4 y5 y6 y z u v : Nat} (h0 : p0 < 9) (h1 : p1 < 9) (h2 : p2 < 9) (h3 : p3 < 9) (h4 : p4 < 9) (h5 : p5 < 9) (h6 : p6 < 9) (h7 : p7 < 9)
    (e6 : y6 = p6 + 256 * p7) (e5 : y5 = p5 + 256 * y6) (e4 : y4 = p4 + 256 * y5) (e3 : y3 = p3 + 256 * y4) (e2 : y2 = p2 + 256 * y3) (e1 : y1 = p1 + 256 * y2) (e0 : y = p0 + 256 * y1)
    (hz : y + y / 256 = z) (hu : z + z / 65536 = u) (hv : u + u / 4294967296 = v) :
    v % 128 = p0 + (p1 + (p2 + (p3 + (p4 + (p5 + (p6 + p7)))))) ∧ v < 9223372036854775808 ∧ z < 9223372036854775808 ∧ u < 9223372036854775808 := by
  have b6 : y6 < 2313 := by clear hz hu hv; omega
  have b5 : y5 < 592137 := by clear hz hu hv; omega
  have b4 : y4 < 151587081 := by clear hz hu hv; omega
  have b3 : y3 < 38806292745 := by clear hz hu hv; omega
  have b2 : y2 < 9934410942729 := by clear hz hu hv; omega
  have b1 : y1 < 2543209201338633 := by clear hz hu hv; omega
  have b0 : y < 651061555542690057 := by clear hz hu hv; omega
  have q1 : y / 256 = y1 := by clear e1 e2 e3 e4 e5 e6 hz hu hv; omega
  rw [q1] at hz
  have s1 : z = (p0 + p1 + 256 * (p1 + p2)) + 65536 * (y2 + y3) := by clear hu hv q1; omega
  have q2 : z / 65536 = y2 + y3 := by clear e0 e1 e2 e3 e4 e5 e6 hu hv hz q1; omega
  rw [q2] at hu
  have s2 : u = (p0 + p1 + p2 + p3) + 256 * ((p1 + p2 + p3 + p4) + 256 * ((p2 + p3 + p4 + p5) + 256 * ((p3 + p4 + p5 + p6) + 256 * (y4 + y5 + y6 + p7)))) := by clear hv q1 q2; omega
  have q3 : u / 4294967296 = y4 + y5 + y6 + p7 := by clear e0 e1 e2 e3 e4 e5 e6 hz hu hv q1 q2 s1 b0 b1 b2 b3 b4 b5 b6; omega
  rw [q3] at hv
  have s3 : v = (p0 + p1 + p2 + p3 + p4 + p5 + p6 + p7) + 256 * ((p1 + p2 + p3 + p4) + 256 * ((p2 + p3 + p4 + p5) + 256 * ((p3 + p4 + p5 + p6) + 256 * (y4 + y5 + y6 + p7))) + (y5 + y6 + p7)) := by
    clear e0 e1 e2 e3 hz hu q1 q2 q3 s1
    omega
  clear e0 e1 e2 e3 e4 e5 e6 q1 q2 q3
  have r : v % 128 = (p0 + p1 + p2 + p3 + p4 + p5 + p6 + p7) % 128 := by
    clear s1 s2 hz hu hv b0 b1 b2 b3 b4 b5 b6
    obtain ⟨Z, hZ⟩ : ∃ Z, ((p1 + p2 + p3 + p4) + 256 * ((p2 + p3 + p4 + p5) + 256 * ((p3 + p4 + p5 + p6) + 256 * (y4 + y5 + y6 + p7))) + (y5 + y6 + p7)) = Z := ⟨_, rfl⟩
    rw [hZ] at s3
    clear hZ
    omega
  refine ⟨by clear s1 s2 s3 hz hu hv; omega, ?_, ?_, ?_⟩
  · clear s1 s2 s3 r; omega
  · clear s1 s2 s3 r hu hv; omega
  · clear s1 s2 s3 r hv; omega
theorem nest_fold {p : Nat → Nat} (hp : ∀ i, i < 8 → p i < 9) {y z u v : Nat} (hy : nest p = y) (hz : y + y / 256 = z) (hu : z + z / 65536 = u) (hv : u + u / 4294967296 = v) :
    v % 128 = p 0 + (p 1 + (p 2 + (p 3 + (p 4 + (p 5 + (p 6 + p 7)))))) ∧ v < 9223372036854775808 ∧ z < 9223372036854775808 ∧ u < 9223372036854775808 :=
  fold_math (hp 0 (by omega)) (hp 1 (by omega)) (hp 2 (by omega)) (hp 3 (by omega)) (hp 4 (by omega)) (hp 5 (by omega)) (hp 6 (by omega)) (hp 7 (by omega)) rfl rfl rfl rfl rfl rfl hy.symm hz hu hv
/-- **THE COUNT, BY SUMS SIDE BY SIDE.** -/
theorem pop_cnt {x : Nat} (hx : x < 18446744073709551616) : ∃ a b y z u v : Nat, pop1 x = a ∧ pop2 a = b ∧ pop3 b = y ∧ y + y / 256 = z ∧ z + z / 65536 = u ∧ u + u / 4294967296 = v ∧ v % 128 = cntB x 64 ∧
    a < 18446744073709551616 ∧ b < 18446744073709551616 ∧ b / 16 + b < 18446744073709551616 ∧ y < 9223372036854775808 ∧ z < 9223372036854775808 ∧ u < 9223372036854775808 ∧ v < 9223372036854775808 := by
  obtain ⟨p, hp⟩ : ∃ p : Nat → Nat, (fun i => x / 256 ^ i % 256) = p := ⟨_, rfl⟩
  have hpl : ∀ i, p i < 256 := fun i => by rw [← hp]; exact Nat.mod_lt _ (by decide)
  have hx' := nest_of x hx
  rw [hp] at hx'
  have g := fun i => f12_le ⟨p i, hpl i⟩
  simp only at g
  have e1 : pop1 x = nest fun i => f1 (p i) := by rw [hx']; exact pop1_nest (fun i _ => hpl i)
  have e2 : pop2 (nest fun i => f1 (p i)) = nest fun i => f2 (f1 (p i)) := pop2_nest (fun i _ => (g i).1)
  have e3 : pop3 (nest fun i => f2 (f1 (p i))) = nest fun i => f3 (f2 (f1 (p i))) := pop3_nest (fun i _ => (g i).2.2.1) (fun i _ => (g i).2.1)
  have e4 : (fun i => f3 (f2 (f1 (p i)))) = fun i => cntB (p i) 8 := funext fun i => (g i).2.2.2.1
  rw [e4] at e3
  obtain ⟨h1, h2, h3, h4⟩ := nest_fold (p := fun i => cntB (p i) 8) (fun i _ => (g i).2.2.2.2) rfl rfl rfl rfl
  have hc := nest_cnt (fun i _ => hpl i)
  rw [← hx'] at hc
  have hb : (nest fun i => f2 (f1 (p i))) < 4919131752989213765 := nest_lt68 (fun i _ => (g i).2.2.1)
  have hy : (nest fun i => cntB (p i) 8) < 9223372036854775808 := Nat.lt_of_le_of_lt (Nat.le_add_right _ _) h3
  refine ⟨_, _, _, _, _, _, e1, e2, e3, rfl, rfl, rfl, by rw [hc]; exact h1, nest_lt (fun i _ => (g i).1), by omega, by omega, hy, h3, h4, h2⟩
end Go.Proofs.YtppdjdlnaohkiaaDoor
