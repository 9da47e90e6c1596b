/-
  Arrays by value and lists of whole numbers, opened. (Made by gen_unrow.py.)
-/
import Derived.Test.YtaohihfhgialnaaArRow
import Derived.Test.YtaohihfhgialnaaUnRows
namespace Go.Proofs.Ytaohihfhgialnaa
open Go.ChangeShapes Go.WideShapes Go.ChangeAt Go.RowKit

section
variable {H : Type} {enc : TypeId × Value → H} {P : Program} {w : World} {base : Nat} {spare : Nat → Bool} {held : Bool}
theorem open_arr {k0 : IntKind} {r : Reach} {b0 : Nat} {t e : TypeId} {n : Nat} {v : Value} {d : DataW H} {p : List MemPlace} (ht : P.underlying t = some (.array n e)) (he : P.underlying e = some (.int k0)) (hC : P.cellsOf t = n) (hE : P.cellsOf e = 1)
    (hv : Value.okWide P w r b0 t v) (h : DataW.Trod enc P w base spare held t v d p) :
    ∃ xs : List Int, xs.length = n ∧ v = .agg ⟨xs.map (Value.int k0)⟩ ∧ d = .agg (xs.map fun x => DataW.lit (.int k0 x)) ∧ p = [] ∧ ∀ x ∈ xs, (Lit.int k0 x).wf = true := by
  obtain ⟨cs, rfl, hsz⟩ : ∃ cs, v = .agg cs ∧ cs.size = P.cellsOf t := by
    have hv' := hv
    simp [Value.okWide, ht] at hv'
    obtain ⟨cs, h1, h2, _⟩ := hv'
    exact ⟨cs, h1, h2⟩
  obtain ⟨l⟩ := cs
  obtain ⟨fuel, hf⟩ := h
  obtain ⟨ys, m, _, hx, hlen, hyl, hg⟩ := DataW.trod_array ht hf
  have hl : l.length = n := by simpa [hC] using hsz
  have each : ∀ i, i < n → ∃ x : Int, l[i]? = some (.int k0 x) ∧ ys[i]? = some (.lit (.int k0 x), []) ∧ (Lit.int k0 x).wf = true := by
    intro i hi
    have hyi : ys[i]? = some (ys[i]'(by omega)) := List.getElem?_eq_getElem (by omega)
    have hli : l[i]? = some (l[i]'(by omega)) := List.getElem?_eq_getElem (by omega)
    have h1 := hg i hi
    rw [hE, hyi] at h1
    have hone : ((l.drop (i * 1)).take 1) = [l[i]'(by omega)] := by
      rw [Nat.mul_one, List.drop_eq_getElem_cons (by omega)]
      rfl
    have h2 : DataW.trod enc P w base spare held m e ((l.drop (i * 1)).take 1) = some (ys[i]'(by omega)) := h1
    rw [hone] at h2
    obtain ⟨x, hx1, hx2, hx3⟩ := DataW.trod_int he h2
    simp only [List.cons.injEq, and_true] at hx1
    exact ⟨x, by rw [hli, hx1], by rw [hyi, hx2], hx3⟩
  have whole : ∀ (k : Nat) (l' : List Value) (ys' : List (DataW H × List MemPlace)), l'.length = k → ys'.length = k → (∀ i, i < k → ∃ x : Int, l'[i]? = some (.int k0 x) ∧ ys'[i]? = some (.lit (.int k0 x), []) ∧ (Lit.int k0 x).wf = true) →
      ∃ xs : List Int, xs.length = k ∧ l' = xs.map (Value.int k0) ∧ ys' = xs.map (fun x => (DataW.lit (.int k0 x), [])) ∧ ∀ x ∈ xs, (Lit.int k0 x).wf = true := by
    intro k
    induction k with
    | zero =>
      intro l' ys' a b _
      exact ⟨[], rfl, List.length_eq_zero_iff.1 a, List.length_eq_zero_iff.1 b, fun x hx => by cases hx⟩
    | succ k ih =>
      intro l' ys' a b c
      match l', ys', a, b with
      | v0 :: l1, y0 :: ys1, a, b =>
        obtain ⟨x, c1, c2, c3⟩ := c 0 (by omega)
        simp only [List.getElem?_cons_zero, Option.some.injEq] at c1 c2
        obtain ⟨xs, d1, d2, d3, d4⟩ := ih l1 ys1 (by simpa using a) (by simpa using b) (fun i hi => by simpa using c (i + 1) (by omega))
        refine ⟨x :: xs, by simp [d1], by simp [c1, d2], by simp [c2, d3], ?_⟩
        intro z hz
        rcases List.mem_cons.1 hz with e | e
        · rw [e]; exact c3
        · exact d4 z e
  obtain ⟨xs, e1, e2, e3, e4⟩ := whole n l ys hl hyl each
  simp only [Prod.mk.injEq] at hx
  refine ⟨xs, e1, by rw [e2], ?_, ?_, e4⟩
  · rw [hx.1, e3, List.map_map]
    rfl
  · rw [hx.2, e3]
    clear hx e1 e2 e3 e4
    induction xs with
    | nil => rfl
    | cons z zs ih => simp
/-- A list of numbers: its cells. -/
theorem open_list {k0 : IntKind} {t e : TypeId} (ht : P.underlying t = some (.slice e)) (he : P.underlying e = some (.int k0)) (hC : P.cellsOf e = 1) {v : Value} {d : DataW H} {p : List MemPlace} {r : Reach} {b0 : Nat}
    (hok : Value.okWide P w r b0 t v) (h : DataW.Trod enc P w base (fun _ => true) held t v d p) :
    ∃ (ao : Option Addr) (b off n cap : Nat) (f : Nat → Int), v = .slice ao n cap ∧ n ≤ maxLen ∧ NArg k0 w ao b off n f ∧ ∀ i, i < n → (Lit.int k0 (f i)).wf = true := by
  obtain ⟨fuel, hf⟩ := h
  obtain ⟨a', len', cap', rfl⟩ := okWide_slice ht hok
  rcases open_ints ht he hC hf with ⟨hcs, _⟩ | ⟨a, len, cap, zs, hcs, _, hl, hm, hlen, _, hc, hwf⟩
  · have hv : Value.slice a' len' cap' = .slice none 0 0 := by simpa [Value.cells] using hcs
    exact ⟨none, 0, 0, 0, 0, fun _ => 0, hv, by simp, ⟨fun h => by omega, fun i h => by omega⟩, fun i h => by omega⟩
  · have hv : Value.slice a' len' cap' = .slice (some a) len cap := by simpa [Value.cells] using hcs
    simp only [if_true] at hlen
    have hw : ∀ i, i < len → (Lit.int k0 (zs.getD i 0)).wf = true := fun i hi => by
      rw [List.getD_eq_getElem?_getD, List.getElem?_eq_getElem (by omega)]
      exact hwf _ (List.getElem_mem _)
    by_cases h0 : 0 < len
    · have c0 := hc 0 (by omega)
      have ha0 : a.add 0 = a := by
        unfold Addr.add
        simp
      rw [ha0] at c0
      obtain ⟨b, off, rfl, hbl⟩ := spot_none c0
      refine ⟨_, b, off, len, cap, fun i => zs.getD i 0, hv, by omega, ⟨fun _ => ⟨rfl, hbl⟩, fun i hi => ?_⟩, hw⟩
      have hci := hc i (by omega)
      rwa [Addr.add_lit] at hci
    · exact ⟨some a, 0, 0, len, cap, fun i => zs.getD i 0, hv, by omega, ⟨fun h => by omega, fun i hi => by omega⟩, fun i hi => by omega⟩
end
theorem list3 {α : Type} (l : List α) (h : l.length = 3) : ∃ a b c, l = [a, b, c] := by
  match l, h with
  | [a, b, c], _ => exact ⟨a, b, c, rfl⟩
theorem cells_u64 : Try.prog.cellsOf 23 = 1 := by kernel_rfl
theorem cells_i64 : Try.prog.cellsOf 3 = 1 := by kernel_rfl
theorem cells_three : Try.prog.cellsOf 24 = 3 := by kernel_rfl
theorem cells_threei : Try.prog.cellsOf 22 = 3 := by kernel_rfl
theorem word_of_wf {x : Int} (h : (Lit.int .u64 x).wf = true) : Word x := by
  simp [Lit.wf, IntKind.min, IntKind.max, IntKind.signed, IntKind.bits] at h
  exact ⟨by omega, by omega⟩
theorem short_of_wf {x : Int} (h : (Lit.int .u16 x).wf = true) : 0 ≤ x ∧ x ≤ 65535 := by
  simp [Lit.wf, IntKind.min, IntKind.max, IntKind.signed, IntKind.bits] at h
  exact ⟨by omega, by omega⟩
theorem byte_of_wf {x : Int} (h : (Lit.int .u8 x).wf = true) : 0 ≤ x ∧ x ≤ 255 := by
  simp [Lit.wf, IntKind.min, IntKind.max, IntKind.signed, IntKind.bits] at h
  exact ⟨by omega, by omega⟩
end Go.Proofs.Ytaohihfhgialnaa
