/-
  Sums of brought ticks and weights, as they grow; how great they are. No program.
-/
import Derived.Test.YtaohihfhgialnaaUnMath
namespace Go.Proofs.Ytaohihfhgialnaa

def psum (f : Int → Int) (l : List Int) (k : Nat) : Int := sumR ((l.take k).map f)
theorem psum_zero (f : Int → Int) (l : List Int) : psum f l 0 = 0 := by simp [psum, sumR]
theorem sum_append (a b : List Int) : sumR (a ++ b) = sumR a + sumR b := by
  induction a with
  | nil => simp [sumR]
  | cons x a ih =>
    have e1 : sumR (x :: a ++ b) = x + sumR (a ++ b) := rfl
    have e2 : sumR (x :: a) = x + sumR a := rfl
    rw [e1, e2, ih]
    omega
theorem psum_succ (f : Int → Int) {l : List Int} {k : Nat} (h : k < l.length) : psum f l (k + 1) = psum f l k + f l[k] := by
  unfold psum
  rw [List.take_succ_eq_append_getElem h, List.map_append, sum_append]
  simp [sumR]
theorem psum_all (f : Int → Int) (l : List Int) : psum f l l.length = sumR (l.map f) := by
  unfold psum
  rw [List.take_length]
theorem psum_range {f : Int → Int} {lo hi : Int} (hf : ∀ x, lo ≤ f x ∧ f x ≤ hi) {l : List Int} : ∀ {k : Nat}, k ≤ l.length → lo * k ≤ psum f l k ∧ psum f l k ≤ hi * k
  | 0, _ => by rw [psum_zero]; simp
  | k + 1, h => by
    obtain ⟨a, b⟩ := psum_range hf (l := l) (k := k) (by omega)
    obtain ⟨c, d⟩ := hf (l[k]'(by omega))
    rw [psum_succ f (by omega)]
    have e1 : lo * ((k + 1 : Nat) : Int) = lo * k + lo := by rw [Int.natCast_add, Int.mul_add]; omega
    have e2 : hi * ((k + 1 : Nat) : Int) = hi * k + hi := by rw [Int.natCast_add, Int.mul_add]; omega
    rw [e1, e2]
    exact ⟨by omega, by omega⟩
def bt (t : Int) : Int := bringR t 0 2147483648
def bw (t : Int) : Int := bringR t 1 4096
theorem bt_range (t : Int) : 0 ≤ bt t ∧ bt t ≤ 2147483648 := bring_range (by decide)
theorem bw_range (t : Int) : 1 ≤ bw t ∧ bw t ≤ 4096 := bring_range (by decide)
theorem tsum_range {l : List Int} {k : Nat} (h : k ≤ l.length) (h64 : l.length ≤ 64) : 0 ≤ psum bt l k ∧ psum bt l k ≤ 137438953472 := by
  obtain ⟨a, b⟩ := psum_range bt_range (l := l) h
  omega
theorem wsum_range {l : List Int} {k : Nat} (h : k ≤ l.length) (h64 : l.length ≤ 64) : (k : Int) ≤ psum bw l k ∧ psum bw l k ≤ 262144 := by
  obtain ⟨a, b⟩ := psum_range bw_range (l := l) h
  omega
theorem off_of {ts ws : List Int} {i : Nat} (h1 : i < ts.length) (h2 : i < ws.length) : offR ts ws i = ((bt ts[i] * psum bw ws ws.length - bw ws[i] * psum bt ts ts.length).natAbs : Nat) := by
  unfold offR ticksR weightsR
  rw [psum_all, psum_all, List.getElem?_map, List.getElem?_map, List.getElem?_eq_getElem h1, List.getElem?_eq_getElem h2]
  rfl
theorem parts_range {ts ws : List Int} {i : Nat} (h1 : i < ts.length) (h2 : i < ws.length) (h64 : ts.length ≤ 64) (g64 : ws.length ≤ 64) :
    (0 ≤ bt ts[i] * psum bw ws ws.length ∧ bt ts[i] * psum bw ws ws.length ≤ 562949953421312) ∧ (0 ≤ bw ws[i] * psum bt ts ts.length ∧ bw ws[i] * psum bt ts ts.length ≤ 562949953421312) := by
  obtain ⟨a0, a1⟩ := bt_range ts[i]
  obtain ⟨b0, b1⟩ := bw_range ws[i]
  obtain ⟨c0, c1⟩ := wsum_range (Nat.le_refl ws.length) g64
  obtain ⟨d0, d1⟩ := tsum_range (Nat.le_refl ts.length) h64
  refine ⟨⟨Int.mul_nonneg a0 (by omega), ?_⟩, Int.mul_nonneg (by omega) d0, ?_⟩
  · have := Int.mul_le_mul a1 c1 (by omega) (by omega)
    omega
  · have := Int.mul_le_mul b1 d1 (by omega) (by omega)
    omega
theorem off_range {ts ws : List Int} {i : Nat} (h1 : i < ts.length) (h2 : i < ws.length) (h64 : ts.length ≤ 64) (g64 : ws.length ≤ 64) : 0 ≤ offR ts ws i ∧ offR ts ws i ≤ 562949953421312 := by
  rw [off_of h1 h2]
  have := parts_range h1 h2 h64 g64
  omega
theorem updiv_range {x a : Int} (h0 : 0 ≤ x) (ha : 1 ≤ a) : 0 ≤ upDiv x a ∧ upDiv x a ≤ x + 1 := by
  unfold upDiv
  have h1 := Int.ediv_nonneg h0 (show 0 ≤ a by omega)
  have h2 := Int.ediv_le_self a h0
  split <;> omega
theorem worst_range {ts ws : List Int} (h64 : ts.length ≤ 64) (g64 : ws.length ≤ 64) (hl : ts.length = ws.length) : ∀ {n : Nat}, n ≤ ts.length → 0 ≤ worstTo ts ws n ∧ worstTo ts ws n ≤ 562949953421313
  | 0, _ => by simp [worstTo]
  | n + 1, h => by
    obtain ⟨a, b⟩ := worst_range h64 g64 hl (n := n) (by omega)
    obtain ⟨c, d⟩ := off_range (ts := ts) (ws := ws) (i := n) (by omega) (by omega) h64 g64
    have hw : 1 ≤ sumR (weightsR ws) := by
      have := (wsum_range (Nat.le_refl ws.length) g64).1
      rw [psum_all] at this
      have e : sumR (List.map bw ws) = sumR (weightsR ws) := rfl
      omega
    obtain ⟨e, f⟩ := updiv_range c hw
    unfold worstTo
    split <;> omega
end Go.Proofs.Ytaohihfhgialnaa
