/-
  Numbers that look like chance, over plain whole numbers: the mix, that it parts what is parted, the bucket, the order. No program.
  The program's mix: Mix, Bucket; for seats that lack the document's (made out of XMixOwn).
-/
import Derived.Laws.Bits64
import Derived.WalkKit
import Derived.Test.YtiffgkmmibhklaaChecked
import Derived.Lib.Hide
import Derived.Deep.QuietTactic
import Derived.BigQuiet

/- Numbers that look like chance, over plain whole numbers: the mix, that it parts what is parted, the bucket, the order. No program. -/
namespace Go.Proofs.Ytiffgkmmibhklaa

/-- The mix. -/
def mixA (x : Nat) : Nat := (x + 11400714819323198485) % 18446744073709551616
def mixB (a : Nat) : Nat := (a ^^^ a / 1073741824) * 13787848793156543929 % 18446744073709551616
def mixC (b : Nat) : Nat := (b ^^^ b / 134217728) * 10723151780598845931 % 18446744073709551616
def mixD (c : Nat) : Nat := c ^^^ c / 2147483648
def mixN (x : Nat) : Nat := mixD (mixC (mixB (mixA x)))

theorem mixA_lt (x : Nat) : mixA x < 18446744073709551616 := Nat.mod_lt _ (by decide)
theorem mixB_lt (x : Nat) : mixB x < 18446744073709551616 := Nat.mod_lt _ (by decide)
theorem mixC_lt (x : Nat) : mixC x < 18446744073709551616 := Nat.mod_lt _ (by decide)
theorem mixD_lt {x : Nat} (h : x < 18446744073709551616) : mixD x < 18446744073709551616 :=
  Nat.xor_lt_two_pow (n := 64) h (Nat.lt_of_le_of_lt (Nat.div_le_self _ _) h)
theorem mixN_lt (x : Nat) : mixN x < 18446744073709551616 := mixD_lt (mixC_lt _)

/-- A number and itself shifted: it can be told from that. -/
theorem shift_apart {a b s : Nat} (hs : 0 < s) (ha : a < 2 ^ 64) (hb : b < 2 ^ 64) (h : a ^^^ a / 2 ^ s = b ^^^ b / 2 ^ s) : a = b := by
  have key : ∀ n i, 64 ≤ i + n → a.testBit i = b.testBit i := by
    intro n
    induction n with
    | zero =>
      intro i hi
      have h1 : a < 2 ^ i := Nat.lt_of_lt_of_le ha (Nat.pow_le_pow_right (by decide) (by omega))
      have h2 : b < 2 ^ i := Nat.lt_of_lt_of_le hb (Nat.pow_le_pow_right (by decide) (by omega))
      rw [Nat.testBit_lt_two_pow h1, Nat.testBit_lt_two_pow h2]
    | succ n ih =>
      intro i hi
      have h1 := congrArg (fun z => z.testBit i) h
      simp only [Nat.testBit_xor, Nat.testBit_div_two_pow] at h1
      have h2 := ih (i + s) (by omega)
      rw [h2] at h1
      simpa using h1
  exact Nat.eq_of_testBit_eq fun i => key 64 i (by omega)
/-- A product by a number that has its inverse. -/
theorem times_apart {a b c d : Nat} (hcd : c * d % 18446744073709551616 = 1) (ha : a < 18446744073709551616) (hb : b < 18446744073709551616) (h : a * c % 18446744073709551616 = b * c % 18446744073709551616) : a = b := by
  have back : ∀ x, x < 18446744073709551616 → x * c % 18446744073709551616 * d % 18446744073709551616 = x := by
    intro x hx
    rw [Nat.mod_mul_mod, Nat.mul_assoc, Nat.mul_mod, hcd, Nat.mul_one, Nat.mod_mod, Nat.mod_eq_of_lt hx]
  rw [← back a ha, h, back b hb]
theorem mixN_apart {x y : Nat} (hx : x < 18446744073709551616) (hy : y < 18446744073709551616) (h : mixN x = mixN y) : x = y := by
  have h1 := shift_apart (s := 31) (by decide) (mixC_lt (mixB (mixA x))) (mixC_lt (mixB (mixA y))) h
  have lb : ∀ z, z < 18446744073709551616 → z ^^^ z / 134217728 < 18446744073709551616 := fun z hz => Nat.xor_lt_two_pow (n := 64) hz (Nat.lt_of_le_of_lt (Nat.div_le_self _ _) hz)
  have la : ∀ z, z < 18446744073709551616 → z ^^^ z / 1073741824 < 18446744073709551616 := fun z hz => Nat.xor_lt_two_pow (n := 64) hz (Nat.lt_of_le_of_lt (Nat.div_le_self _ _) hz)
  have h2 := times_apart (d := 3573116690164977347) (by decide) (lb _ (mixB_lt _)) (lb _ (mixB_lt _)) h1
  have h3 := shift_apart (s := 27) (by decide) (mixB_lt (mixA x)) (mixB_lt (mixA y)) h2
  have h4 := times_apart (d := 10871156337175269513) (by decide) (la _ (mixA_lt _)) (la _ (mixA_lt _)) h3
  have h5 := shift_apart (s := 30) (by decide) (mixA_lt x) (mixA_lt y) h4
  unfold mixA at h5
  omega

/-- Bit by bit. -/
theorem xor_step (x y k : Nat) : (x ^^^ y) % 2 ^ (k + 1) = (x ^^^ y) % 2 ^ k + (if x / 2 ^ k % 2 = y / 2 ^ k % 2 then 0 else 2 ^ k) := by
  have e : (x ^^^ y) / 2 ^ k % 2 = if x / 2 ^ k % 2 = y / 2 ^ k % 2 then 0 else 1 := by
    rw [← Nat.toNat_testBit, Nat.testBit_xor, ← Nat.toNat_testBit, ← Nat.toNat_testBit]
    cases x.testBit k <;> cases y.testBit k <;> rfl
  rw [Nat.mod_pow_succ, e]
  split <;> simp
theorem xor_done {x y : Nat} (hx : x < 18446744073709551616) (hy : y < 18446744073709551616) : (x ^^^ y) % 2 ^ 64 = x ^^^ y := Nat.mod_eq_of_lt (Nat.xor_lt_two_pow (n := 64) hx hy)

/-- The bucket. -/
def bucI (key n : Int) : Int := if n < 2 then 0 else ((mixN (key % 18446744073709551616).toNat % n.toNat : Nat) : Int)
theorem bucI_range (key n : Int) : 0 ≤ bucI key n ∧ (2 ≤ n → bucI key n < n) ∧ (n < 2 → bucI key n = 0) := by
  unfold bucI
  by_cases h : n < 2
  · rw [if_pos h]; omega
  · rw [if_neg h]
    have := Nat.mod_lt (mixN (key % 18446744073709551616).toNat) (show 0 < n.toNat by omega)
    omega

/-- Two places change. -/
def swp (L : List Int) (i k : Nat) : List Int := (L.set i (L.getD k 0)).set k (L.getD i 0)
theorem swp_len (L : List Int) (i k : Nat) : (swp L i k).length = L.length := by simp [swp]
theorem swp_perm (L : List Int) (i k : Nat) (hi : i < L.length) (hk : k < L.length) : (swp L i k).Perm L := by
  have h1 : L.getD k 0 = L[k] := by simp [hk]
  have h2 : L.getD i 0 = L[i] := by simp [hi]
  unfold swp
  rw [h1, h2]
  exact List.set_set_perm hi hk
/-- The place that the i-th one changes with. -/
def ordK (seed : Nat) (i : Nat) : Nat := (bucI (((seed + i : Nat) : Int)) ((i : Int) + 1)).toNat
/-- The order behind the rounds from the end down to i (not with it). -/
def ordL (seed m : Nat) : Nat → List Int
  | 0 => (List.range m).map fun j : Nat => (j : Int)
  | d + 1 => swp (ordL seed m d) (m - 1 - d) (ordK seed (m - 1 - d))
def orderOf (seed : Nat) (n : Int) : List Int := ordL seed (min (max n 0) 64).toNat ((min (max n 0) 64).toNat - 1)
theorem ordL_len (seed m d : Nat) : (ordL seed m d).length = m := by
  induction d with
  | zero => simp [ordL]
  | succ d ih => rw [ordL, swp_len, ih]
theorem ordK_lt (seed i : Nat) (hi : 0 < i) : ordK seed i ≤ i := by
  unfold ordK
  have := (bucI_range ((seed + i : Nat) : Int) ((i : Int) + 1)).2.1 (by omega)
  omega
theorem ordL_perm (seed m : Nat) : ∀ d, d + 1 ≤ m → (ordL seed m d).Perm ((List.range m).map fun j : Nat => (j : Int))
  | 0, _ => List.Perm.refl _
  | d + 1, h => by
    have ih := ordL_perm seed m d (by omega)
    refine List.Perm.trans (swp_perm _ _ _ ?_ ?_) ih
    · rw [ordL_len]; omega
    · rw [ordL_len]
      have := ordK_lt seed (m - 1 - d) (by omega)
      omega
/-- The bits that were met. -/
def seenN (L : List Int) : Nat := L.foldl (fun s v => s ||| 2 ^ v.toNat) 0
theorem seen_fold (L : List Int) (s i : Nat) : (L.foldl (fun s v => s ||| 2 ^ v.toNat) s).testBit i = (s.testBit i || L.any fun v => decide (v.toNat = i)) := by
  induction L generalizing s with
  | nil => simp
  | cons v L ih =>
    rw [List.foldl_cons, ih, Nat.testBit_or, Nat.testBit_two_pow, List.any_cons, Bool.or_assoc]
theorem seen_perm {L : List Int} {m : Nat} (h : L.Perm ((List.range m).map fun j : Nat => (j : Int))) : seenN L = 2 ^ m - 1 := by
  refine Nat.eq_of_testBit_eq fun i => ?_
  rw [Nat.testBit_two_pow_sub_one, seenN, seen_fold]
  simp only [Nat.zero_testBit, Bool.false_or]
  rw [Bool.eq_iff_iff, List.any_eq_true, decide_eq_true_eq]
  constructor
  · rintro ⟨v, hv, he⟩
    have := (h.mem_iff).1 hv
    simp only [List.mem_map, List.mem_range] at this
    obtain ⟨j, hj, rfl⟩ := this
    simp at he
    omega
  · intro hi
    refine ⟨(i : Int), (h.mem_iff).2 ?_, by simp⟩
    simp only [List.mem_map, List.mem_range]
    exact ⟨i, hi, rfl⟩
theorem seen_snoc (L : List Int) (v : Int) : seenN (L ++ [v]) = seenN L ||| 2 ^ v.toNat := by simp [seenN]
theorem seen_lt {L : List Int} (h : ∀ v ∈ L, 0 ≤ v ∧ v < 64) : seenN L < 18446744073709551616 := by
  refine Nat.lt_pow_two_of_testBit (n := 64) _ fun i hi => ?_
  rw [seenN, seen_fold]
  simp only [Nat.zero_testBit, Bool.false_or]
  rw [List.any_eq_false]
  intro v hv
  have := h v hv
  simp
  omega
theorem order_range (seed : Nat) (n : Int) : ∀ v ∈ orderOf seed n, 0 ≤ v ∧ v < 64 := by
  intro v hv
  by_cases h0 : n ≤ 0
  · have e : (min (max n 0) 64).toNat = 0 := by omega
    simp [orderOf, e, ordL] at hv
  · have hp := ordL_perm seed (min (max n 0) 64).toNat ((min (max n 0) 64).toNat - 1) (by omega)
    have := (hp.mem_iff).1 hv
    simp only [List.mem_map, List.mem_range] at this
    obtain ⟨j, hj, rfl⟩ := this
    omega
theorem order_len (seed : Nat) (n : Int) : (orderOf seed n).length = (min (max n 0) 64).toNat := ordL_len _ _ _
theorem order_seen (seed : Nat) (n : Int) : seenN (orderOf seed n) = 2 ^ (orderOf seed n).length - 1 := by
  rw [order_len]
  by_cases h0 : n ≤ 0
  · have e : (min (max n 0) 64).toNat = 0 := by omega
    simp [orderOf, e, ordL, seenN]
  · exact seen_perm (ordL_perm seed (min (max n 0) 64).toNat ((min (max n 0) 64).toNat - 1) (by omega))
end Go.Proofs.Ytiffgkmmibhklaa

/- The program's mix: Mix, Bucket; for seats that lack the document's (made out of XMixOwn). -/
namespace Go.Proofs.Ytiffgkmmibhklaa
open Go.RowKit

theorem mix_steps (x : Nat) : IntKind.u64.wrap ((x : Int) + 11400714819323198485) = (mixA x : Int) := by
  rw [IntKind.wrap_u64]; unfold mixA; omega
theorem mixB_step (a : Nat) : IntKind.u64.wrap (((a ^^^ a / 1073741824 : Nat) : Int) * 13787848793156543929) = (mixB a : Int) := by
  rw [IntKind.wrap_u64]; unfold mixB; omega
theorem mixC_step (b : Nat) : IntKind.u64.wrap (((b ^^^ b / 134217728 : Nat) : Int) * 10723151780598845931) = (mixC b : Int) := by
  rw [IntKind.wrap_u64]; unfold mixC; omega

set_option maxHeartbeats 400000 in
theorem mix_any (x : Nat) (w : World) : Calls Try.prog 84 #[.int .u64 x] w fun e w' => e = .returned (.int .u64 (mixN x : Int)) ∧ w = w' := by
  obtain ⟨a, ha⟩ : ∃ a, mixA x = a := ⟨_, rfl⟩
  have la := mixA_lt x
  have sa := mix_steps x
  rw [ha] at la sa
  obtain ⟨b, hb⟩ : ∃ b, mixB a = b := ⟨_, rfl⟩
  have lb := mixB_lt a
  have sb := mixB_step a
  rw [hb] at lb sb
  obtain ⟨c, hc⟩ : ∃ c, mixC b = c := ⟨_, rfl⟩
  have lc := mixC_lt b
  have sc := mixC_step b
  rw [hc] at lc sc
  have hv : mixN x = c ^^^ c / 2147483648 := by unfold mixN; rw [ha, hb, hc]; rfl
  obtain ⟨a2, ha2⟩ : ∃ z, a / 1073741824 = z := ⟨_, rfl⟩
  obtain ⟨b2, hb2⟩ : ∃ z, b / 134217728 = z := ⟨_, rfl⟩
  obtain ⟨c2, hc2⟩ : ∃ z, c / 2147483648 = z := ⟨_, rfl⟩
  have da : ((a : Int) / 1073741824) = (a2 : Int) := by omega
  have db : ((b : Int) / 134217728) = (b2 : Int) := by omega
  have dc : ((c : Int) / 2147483648) = (c2 : Int) := by omega
  have xa := bits_xor_u64_nat a a2 la (by omega)
  have xb := bits_xor_u64_nat b b2 lb (by omega)
  have xc := bits_xor_u64_nat c c2 lc (by omega)
  rw [ha2] at sb
  rw [hb2] at sc
  rw [hc2] at hv
  have HV := Lib.hid hv
  clear ha hb hc hv ha2 hb2 hc2 la lb lc
  obtain ⟨za, hza⟩ : ∃ z, a ^^^ a2 = z := ⟨_, rfl⟩
  obtain ⟨zb, hzb⟩ : ∃ z, b ^^^ b2 = z := ⟨_, rfl⟩
  obtain ⟨zc, hzc⟩ : ∃ z, c ^^^ c2 = z := ⟨_, rfl⟩
  rw [hza] at xa sb
  rw [hzb] at xb sc
  rw [hzc] at xc HV
  clear hza hzb hzc
  go_enter Try.func84, Try.ntmps84
  go_wp2
  go_ret
  rw [HV.out]
  exact ⟨rfl, rfl⟩

set_option maxHeartbeats 400000 in
theorem buc_any (key n : Int) (w : World) (hn : n ≤ 9223372036854775807) : Calls Try.prog 74 #[.int .i64 key, .int .i64 n] w fun e w' => e = .returned (.int .i64 (bucI key n)) ∧ w = w' := by
  by_cases h : n < 2
  · rw [show bucI key n = 0 by simp [bucI, h]]
    go_enter Try.func74, Try.ntmps74
    go_wp2
    go_ret
    exact ⟨rfl, rfl⟩
  · obtain ⟨m, rfl⟩ := Int.eq_ofNat_of_zero_le (show 0 ≤ n by omega)
    obtain ⟨k, hk⟩ := Int.eq_ofNat_of_zero_le (Int.emod_nonneg key (show (18446744073709551616 : Int) ≠ 0 by decide))
    have hkl := Int.emod_lt_of_pos key (show (0 : Int) < 18446744073709551616 by decide)
    have ek : IntKind.u64.wrap key = (k : Int) := by rw [IntKind.wrap_u64, hk]
    have em : IntKind.u64.wrap (m : Int) = (m : Int) := by rw [IntKind.wrap_u64]; omega
    obtain ⟨r, hr⟩ : ∃ r, mixN k % m = r := ⟨_, rfl⟩
    have hrl : r < m := by rw [← hr]; exact Nat.mod_lt _ (by omega)
    obtain ⟨z, hz⟩ : ∃ z, mixN k = z := ⟨_, rfl⟩
    have hv : bucI key (m : Int) = (r : Int) := by
      unfold bucI
      rw [if_neg h, hk]
      simp [hr]
    have HM := Lib.hid (fun W => mix_any k W)
    rw [hz] at HM
    have et : ((z : Int)).tmod (m : Int) = (r : Int) := by rw [← hr, hz]; rfl
    have ew : IntKind.i64.wrap (r : Int) = (r : Int) := by rw [IntKind.wrap_i64]; omega
    have HV := Lib.hid hv
    have m0 : (m : Int) ≠ 0 := by omega
    have m1 : ((m : Int) == 0) = false := by simpa using m0
    have m2 : 2 ≤ m := by omega
    have m3 : ¬ m = 0 := by omega
    clear hv hr hz hk hkl hrl
    go_enter Try.func74, Try.ntmps74
    go_wp2_with fail
    refine (HM.out _).mono ?_
    rintro e w1 ⟨rfl, rfl⟩
    go_wp2
    go_ret
    rw [HV.out]
    exact ⟨rfl, rfl⟩
end Go.Proofs.Ytiffgkmmibhklaa
