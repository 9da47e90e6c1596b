/-
  The document's queue: Push and Take at any input; Pour.
-/
import Derived.Test.YtnoiifnknkakoaaFfTake
namespace Go.Proofs.Ytnoiifnknkakoaa
open Go.RowKit

/-- What Push answers, and what is there behind it. -/
def psE (m : Int) (L : List Ft) : Int := if m ≤ L.length then 3 else 0
def psT (m last : Int) (L : List Ft) : Int := if m ≤ L.length then 0 else last + 1
def psN (m last : Int) (L : List Ft) : Int := if m ≤ L.length then last else last + 1
def psL (m last : Int) (L : List Ft) (v : Int) : List Ft := if m ≤ L.length then L else L ++ [(last + 1, v)]
/-- What Take answers, and what is left. -/
def tkB (L : List Ft) (i : Int) : Bool := decide (0 ≤ i ∧ i < L.length)
def tkV (L : List Ft) (i : Int) : Int := if tkB L i then (L.getD i.toNat (0, 0)).2 else 0
def tkL (L : List Ft) (i : Int) : List Ft := if tkB L i then L.eraseIdx i.toNat else L

theorem rpush5_any {w : World} {b : Nat} {X : List Nat} {m last : Int} {L : List Ft} (h : R5 w b X m last L) (v : Int) (hL : L.length ≤ 1000000) (hl0 : 0 ≤ last) (hl1 : last ≤ 1000000) :
    Calls Try.prog 10 #[.pointer (some ⟨b, 0, none⟩), .int .i64 v] w fun e w' => e = .returned (.tuple #[.int .i64 (psT m last L), .int .i64 (psE m L)]) ∧
      ∃ X', R5 w' b X' m (psN m last L) (psL m last L v) ∧ Turned X w w' ∧ Newer X w.heap.size X' := by
  by_cases hm : m ≤ L.length
  · simp only [psT, psE, psN, psL, if_pos hm]
    exact (rpush5_full h v hm).mono fun e w' ⟨he, n, hw⟩ => ⟨he, X, by rw [hw]; exact h.drewN n, by rw [hw]; exact (Turned.refl _ _).drewN _, Newer.refl _ _⟩
  · simp only [psT, psE, psN, psL, if_neg hm]
    exact rpush5_yes h v (by omega) hL hl0 hl1
theorem rtake5_any {w : World} {b : Nat} {X : List Nat} {m last : Int} {L : List Ft} (h : R5 w b X m last L) (i : Int) (hL : L.length ≤ 1000000) :
    Calls Try.prog 12 #[.pointer (some ⟨b, 0, none⟩), .int .i64 i] w fun e w' => e = .returned (.tuple #[.int .i64 (tkV L i), .bool (tkB L i)]) ∧
      ∃ X', R5 w' b X' m last (tkL L i) ∧ Turned X w w' ∧ Newer X w.heap.size X' := by
  by_cases hi : 0 ≤ i ∧ i < L.length
  · have hb : tkB L i = true := by simpa [tkB] using hi
    obtain ⟨j, rfl⟩ := Int.eq_ofNat_of_zero_le hi.1
    simp only [tkV, tkL, hb, if_true, Int.toNat_natCast]
    exact rtake5_at h j (by omega) hL
  · have hb : tkB L i = false := by simpa [tkB] using hi
    simp only [tkV, tkL, hb]
    exact (rtake5_no h i (by omega)).mono fun e w' ⟨he, hw⟩ => ⟨he, X, by rw [← hw]; exact h, by rw [← hw]; exact Turned.refl _ _, Newer.refl _ _⟩

/-- How many are poured over; what lies in the second queue behind k of them. -/
def pourK (n : Int) (A B : List Ft) (mB : Int) : Nat := min n.toNat (min A.length (mB - B.length).toNat)
def pourB (B : List Ft) (last : Int) (A : List Ft) (k : Nat) : List Ft := B ++ (List.range k).map fun i : Nat => (last + 1 + (i : Int), (A.getD i (0, 0)).2)
theorem pourB_zero (B : List Ft) (last : Int) (A : List Ft) : pourB B last A 0 = B := by simp [pourB]
theorem pourB_succ (B : List Ft) (last : Int) (A : List Ft) (k : Nat) : pourB B last A (k + 1) = pourB B last A k ++ [(last + (k : Int) + 1, (A.getD k (0, 0)).2)] := by
  simp only [pourB, List.range_succ, List.map_append, List.map_cons, List.map_nil, List.append_assoc]
  rw [show last + 1 + (k : Int) = last + (k : Int) + 1 by omega]
theorem pourB_len (B : List Ft) (last : Int) (A : List Ft) (k : Nat) : (pourB B last A k).length = B.length + k := by simp [pourB]

/-- Two queues side by side, k poured over. -/
def Pours (w0 w : World) (a b : Nat) (X Y : List Nat) (mA lA mB lB : Int) (A B : List Ft) (k : Nat) : Prop :=
  ∃ X' Y', R5 w a X' mA lA (A.drop k) ∧ R5 w b Y' mB (lB + k) (pourB B lB A k) ∧ (∀ j ∈ X', j ∉ Y') ∧ Turned (X ++ Y) w0 w ∧ Newer X w0.heap.size X' ∧ Newer Y w0.heap.size Y'

theorem Pours.drewN {w0 w : World} {a b : Nat} {X Y : List Nat} {mA lA mB lB : Int} {A B : List Ft} {k : Nat} (h : Pours w0 w a b X Y mA lA mB lB A B k) (n : Nat) : Pours w0 (w.drewN n) a b X Y mA lA mB lB A B k := by
  obtain ⟨X', Y', h1, h2, h3, h4, h5, h6⟩ := h
  exact ⟨X', Y', h1.drewN n, h2.drewN n, h3, h4.drewN n, h5, h6⟩

theorem tk_first {A : List Ft} {k : Nat} (hk : k < A.length) : tkV (A.drop k) 0 = (A.getD k (0, 0)).2 ∧ tkB (A.drop k) 0 = true ∧ tkL (A.drop k) 0 = A.drop (k + 1) := by
  have hb : tkB (A.drop k) 0 = true := by simp [tkB]; omega
  refine ⟨?_, hb, ?_⟩
  · rw [tkV, if_pos hb, List.drop_eq_getElem_cons hk]
    simp [hk]
  · rw [tkL, if_pos hb, List.drop_eq_getElem_cons hk]
    simp
theorem take_first {w : World} {b : Nat} {X : List Nat} {m last : Int} {A : List Ft} {k : Nat} (h : R5 w b X m last (A.drop k)) (hk : k < A.length) (hL : A.length ≤ 1000000) :
    Calls Try.prog 12 #[.pointer (some ⟨b, 0, none⟩), .int .i64 0] w fun e w' => e = .returned (.tuple #[.int .i64 (A.getD k (0, 0)).2, .bool true]) ∧
      ∃ X', R5 w' b X' m last (A.drop (k + 1)) ∧ Turned X w w' ∧ Newer X w.heap.size X' := by
  have hh := rtake5_any h 0 (by simp; omega)
  obtain ⟨e1, e2, e3⟩ := tk_first hk
  rw [e1, e2, e3] at hh
  exact hh

/-- A round. -/
theorem Pours.step {w0 w w1 w2 : World} {a b : Nat} {X Y X' Y' X2 Y2 : List Nat} {mA lA mB lB : Int} {A B : List Ft} {k : Nat} (p2 : R5 w b Y' mB (lB + k) (pourB B lB A k)) (p3 : ∀ j ∈ X', j ∉ Y') (p4 : Turned (X ++ Y) w0 w) (p5 : Newer X w0.heap.size X') (p6 : Newer Y w0.heap.size Y')
    (q1 : R5 w1 a X2 mA lA (A.drop (k + 1))) (q2 : Turned X' w w1) (q3 : Newer X' w.heap.size X2)
    (s1 : R5 w2 b Y2 mB (lB + k + 1) (pourB B lB A k ++ [(lB + k + 1, (A.getD k (0, 0)).2)])) (s2 : Turned Y' w1 w2) (s3 : Newer Y' w1.heap.size Y2) : Pours w0 w2 a b X Y mA lA mB lB A B (k + 1) := by
  have h1 := q2.size
  have h2 := p4.size
  have hXY : ∀ j ∈ X2, j ∉ Y' := fun j hj hy => by
    rcases q3 j hj with h | h
    · exact p3 j h hy
    · have := p2.lt j hy
      omega
  have e : lB + ((k + 1 : Nat) : Int) = lB + k + 1 := by omega
  refine ⟨X2, Y2, q1.keep s2 hXY, by rw [e, pourB_succ]; exact s1, fun j hj hy => ?_, ?_, p5.trans q3 h2, p6.trans s3 (by omega)⟩
  · rcases s3 j hy with h | h
    · exact hXY j hj h
    · have := q1.lt j hj
      omega
  · refine (p4.trans q2 ?_).trans s2 ?_
    · exact fun j hj => by
        rcases p5 j hj with h | h
        · exact .inl (List.mem_append_left _ h)
        · exact .inr h
    · exact fun j hj => by
        rcases p6 j hj with h | h
        · exact .inl (List.mem_append_right _ h)
        · exact .inr h

set_option maxRecDepth 100000 in
set_option maxHeartbeats 1600000 in
theorem rpour_any {w : World} {a b : Nat} {X Y : List Nat} {mA lA mB lB : Int} {A B : List Ft} (hA : R5 w a X mA lA A) (hB : R5 w b Y mB lB B) (hd : ∀ j ∈ X, j ∉ Y) (n : Int) (hAl : A.length ≤ 100000) (hBl : B.length ≤ 100000) (hl0 : 0 ≤ lB) (hl1 : lB ≤ 100000) :
    Calls Try.prog 17 #[.pointer (some ⟨a, 0, none⟩), .pointer (some ⟨b, 0, none⟩), .int .i64 n] w fun e w' => e = .returned (.int .i64 (pourK n A B mB)) ∧ Pours w w' a b X Y mA lA mB lB A B (pourK n A B mB) := by
  have hK1 : pourK n A B mB ≤ A.length := by unfold pourK; omega
  have hK2 : (pourK n A B mB : Int) ≤ max n 0 := by unfold pourK; omega
  obtain ⟨K, hK⟩ : ∃ K, pourK n A B mB = K := ⟨_, rfl⟩
  have hKs := Lib.hid hK
  have hP : Pours w w a b X Y mA lA mB lB A B 0 := ⟨X, Y, by simpa using hA, by rw [pourB_zero]; simpa using hB, hd, Turned.refl _ _, Newer.refl _ _, Newer.refl _ _⟩
  have HP0 := Lib.hid hP
  rw [hK] at hK1 hK2 ⊢
  clear hA hB hP hK
  go_enter Try.func17, Try.ntmps17
  go_wp2
  go_loopw [7] (fun c wr => ∃ k : Nat, c = .int .i64 k ∧ k ≤ K ∧ Hid (Pours w wr a b X Y mA lA mB lB A B k)) (fun c _ => K - (intOf c).toNat)
  case atStart => exact ⟨0, rfl, by omega, HP0⟩
  case round =>
    obtain ⟨k, rfl, hk, HP⟩ := hrel
    obtain ⟨X', Y', p1, p2, p3, p4, p5, p6⟩ := HP.out
    obtain ⟨aa, ca, a0, a1, a2, _⟩ := p1.rows
    obtain ⟨ab, cb, b0, b1, b2, _⟩ := p2.rows
    have lA' : (A.drop k).length = A.length - k := by simp
    have lB' := pourB_len B lB A k
    rw [lA'] at a2
    rw [lB'] at b2
    have P1 := Lib.hid p1
    have P2 := Lib.hid p2
    have P3 := Lib.hid p3
    have P4 := Lib.hid p4
    have P5 := Lib.hid p5
    have P6 := Lib.hid p6
    by_cases hlt : k < K
    · have hkd := hKs.out
      have q1 : decide ((k : Int) < n) = true := by unfold pourK at hkd; rw [decide_eq_true_eq]; omega
      have q2 : decide (0 < A.length - k) = true := by unfold pourK at hkd; rw [decide_eq_true_eq]; omega
      have q3 : decide (((B.length + k : Nat) : Int) < mB) = true := by unfold pourK at hkd; rw [decide_eq_true_eq]; omega
      obtain ⟨u, hu⟩ : ∃ u, B.length + k = u := ⟨_, rfl⟩
      obtain ⟨t, ht⟩ : ∃ t, A.length - k = t := ⟨_, rfl⟩
      have HQ3 := Lib.hid q3
      rw [hu] at b2 q3
      rw [ht] at a2 q2
      have HT := Lib.hid (fun q : Nat => take_first (w := wr.drewN q) (p1.drewN q) (by omega) (by omega))
      have HPL := Lib.hid (pourB_len B lB A k)
      clear p1 p2 p3 p4 p5 p6 hkd lA' lB' hu ht
      go_wp2
      go_big_quiet (fail)
      go_wp2_with (fail)
      refine (HT.out _).mono ?_
      rintro e w1 ⟨rfl, X2, r1, r2, r3⟩
      have HP2 := Lib.hid (rpush5_yes (((P2.out).drewN nq).keep r2 (fun j hj hx => P3.out j hx hj)) (A.getD k (0, 0)).2 (by rw [HPL.out]; exact (of_decide_eq_true (HQ3.out))) (by rw [HPL.out]; omega) (by omega) (by omega))
      have R1 := Lib.hid r1
      have R2 := Lib.hid r2
      have R3 := Lib.hid r3
      clear r1 r2 r3
      go_wp2_with (fail)
      refine HP2.out.mono ?_
      rintro e w2 ⟨rfl, Y2, r1, r2, r3⟩
      have S := Lib.hid (Pours.step (P2.out.drewN nq) P3.out (P4.out.drewN nq) P5.out P6.out R1.out R2.out R3.out r1 r2 r3)
      clear r1 r2 r3
      go_wp2
      go_roundw
      case rel => exact ⟨k + 1, by go_num, by omega, S⟩
      case measure => simp [intOf]; omega
    · have hkK : k = K := by omega
      subst hkK
      have hkd := hKs.out
      have fin := Lib.hid (fun q => HP.out.drewN q)
      clear p1 p2 p3 p4 p5 p6
      by_cases c1 : (k : Int) < n
      · have q1 : decide ((k : Int) < n) = true := by simpa using c1
        by_cases c2 : k < A.length
        · have q2 : decide (0 < A.length - k) = true := by rw [decide_eq_true_eq]; omega
          have q3 : decide (((B.length + k : Nat) : Int) < mB) = false := by unfold pourK at hkd; rw [decide_eq_false_iff_not]; omega
          obtain ⟨u, hu⟩ : ∃ u, B.length + k = u := ⟨_, rfl⟩
          obtain ⟨t, ht⟩ : ∃ t, A.length - k = t := ⟨_, rfl⟩
          rw [hu] at b2 q3
          rw [ht] at a2 q2
          clear hkd lA' lB' hu ht c1 c2 hlt
          go_wp2
          go_big_quiet (fail)
          go_wp2
          go_ret
          exact ⟨rfl, fin.out _⟩
        · have q2 : decide (0 < A.length - k) = false := by rw [decide_eq_false_iff_not]; omega
          obtain ⟨t, ht⟩ : ∃ t, A.length - k = t := ⟨_, rfl⟩
          rw [ht] at a2 q2
          clear hkd lA' lB' ht c1 c2 hlt
          go_wp2
          go_big_quiet (fail)
          go_wp2
          go_ret
          exact ⟨rfl, fin.out _⟩
      · have q1 : decide ((k : Int) < n) = false := by simpa using c1
        clear hkd lA' lB' c1 hlt
        go_wp2
        go_big_quiet (fail)
        go_wp2
        go_ret
        exact ⟨rfl, fin.out _⟩
end Go.Proofs.Ytnoiifnknkakoaa
