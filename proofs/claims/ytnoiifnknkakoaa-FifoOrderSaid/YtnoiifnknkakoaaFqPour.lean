/-
  Pour; what is to be said of queues, all of it.
-/
import Derived.Test.YtnoiifnknkakoaaFqCalls
import Derived.LaidEqlPtr
namespace Go.Proofs.Ytnoiifnknkakoaa
open Go.RowKit Go.Maps

/-- Two queues side by side, k poured over. -/
def QPours (w0 w : World) (a b : Nat) (X Y : List Nat) (mA lA mB lB : Int) (A B : List Ft) (k : Nat) : Prop :=
  ∃ X' Y', QI w a X' mA lA (A.drop k) ∧ QI w b Y' mB (lB + k) (pourB B lB A k) ∧ (∀ j ∈ X', j ∉ Y') ∧ Turned (X ++ Y) w0 w ∧ Newer X w0.heap.size X' ∧ Newer Y w0.heap.size Y'
theorem qtake_first {w : World} {b : Nat} {X : List Nat} {m last : Int} {A : List Ft} {k : Nat} (h : QI w b X m last (A.drop k)) (hk : k < A.length) :
    Calls Try.prog 11 #[.pointer (some ⟨b, 0, none⟩)] w fun e w' => e = .returned (.tuple #[.int .i64 (A.getD k (0, 0)).2, .bool true]) ∧
      ∃ X', QI w' b X' m last (A.drop (k + 1)) ∧ Turned X w w' ∧ Newer X w.heap.size X' := by
  have hh := qpop h
  obtain ⟨e1, e2, e3⟩ := tk_first hk
  rw [e1, e2, e3] at hh
  exact hh
theorem QPours.keep0 {w0 w w' : World} {a b : Nat} {X Y : List Nat} {mA lA mB lB : Int} {A B : List Ft} {k : Nat} (h : QPours w0 w a b X Y mA lA mB lB A B k) (ht : Turned [] w w') : QPours w0 w' a b X Y mA lA mB lB A B k := by
  obtain ⟨X', Y', h1, h2, h3, h4, h5, h6⟩ := h
  exact ⟨X', Y', h1.keep0 ht, h2.keep0 ht, h3, h4.then0 ht, h5, h6⟩
/-- A round. -/
theorem QPours.step {w0 w w1 w2 : World} {a b : Nat} {X Y X' Y' X2 Y2 : List Nat} {mA lA mB lB : Int} {A B : List Ft} {k : Nat} (p2 : QI w b Y' mB (lB + k) (pourB B lB A k)) (p3 : ∀ j ∈ X', j ∉ Y') (p4 : Turned (X ++ Y) w0 w) (p5 : Newer X w0.heap.size X') (p6 : Newer Y w0.heap.size Y')
    (q1 : QI w1 a X2 mA lA (A.drop (k + 1))) (q2 : Turned X' w w1) (q3 : Newer X' w.heap.size X2)
    (s1 : QI w2 b Y2 mB (lB + k + 1) (pourB B lB A k ++ [(lB + k + 1, (A.getD k (0, 0)).2)])) (s2 : Turned Y' w1 w2) (s3 : Newer Y' w1.heap.size Y2) : QPours w0 w2 a b X Y mA lA mB lB A B (k + 1) := by
  have h1 := q2.size
  have h2 := p4.size
  have hXY : ∀ j ∈ X2, j ∉ Y' := fun j hj hy => by
    rcases q3 j hj with h | h
    · exact p3 j h hy
    · have := p2.lt j hy
      omega
  have e : lB + ((k + 1 : Nat) : Int) = lB + k + 1 := by omega
  refine ⟨X2, Y2, q1.keep s2 hXY, by rw [e, pourB_succ]; exact s1, fun j hj hy => ?_, ?_, p5.trans q3 h2, p6.trans s3 (by omega)⟩
  · rcases s3 j hy with h | h
    · exact hXY j hj h
    · have := q1.lt j hj
      omega
  · refine (p4.trans q2 ?_).trans s2 ?_
    · exact fun j hj => by
        rcases p5 j hj with h | h
        · exact .inl (List.mem_append_left _ h)
        · exact .inr h
    · exact fun j hj => by
        rcases p6 j hj with h | h
        · exact .inl (List.mem_append_right _ h)
        · exact .inr h
theorem qpush_yes {w : World} {b : Nat} {X : List Nat} {m l : Int} {L : List Ft} (h : QI w b X m l L) (v : Int) (hm : (L.length : Int) < m) (hl : l ≤ 100000) :
    Calls Try.prog 9 #[.pointer (some ⟨b, 0, none⟩), .int .i64 v] w fun e w' => e = .returned (.tuple #[.int .i64 (l + 1), .int .i64 0]) ∧
      ∃ X', QI w' b X' m (l + 1) (L ++ [(l + 1, v)]) ∧ Turned X w w' ∧ Newer X w.heap.size X' := by
  have hh := qpush v h hl
  simp only [psT, psE, psN, psL, if_neg (show ¬ m ≤ L.length by omega)] at hh
  exact hh
theorem qpour_nil1 (b : Option Addr) (n : Int) (w : World) : Calls Try.prog 16 #[.pointer none, .pointer b, .int .i64 n] w fun e w' => e = .returned (.int .i64 0) ∧ w' = w := by
  go_enter Try.func16, Try.ntmps16
  go_wp2
  go_ret
  exact ⟨rfl, rfl⟩
theorem qpour_nil2 (a : Nat) (n : Int) (w : World) : Calls Try.prog 16 #[.pointer (some ⟨a, 0, none⟩), .pointer none, .int .i64 n] w fun e w' => e = .returned (.int .i64 0) ∧ w' = w := by
  go_enter Try.func16, Try.ntmps16
  go_wp2
  go_ret
  exact ⟨rfl, rfl⟩
theorem infoQu : (Try.prog.info? tQu).map (fun i => i.size) = some 5 := by kernel_rfl
theorem qu_info : ∃ j, Try.prog.info? tQu = some j ∧ j.size ≠ 0 := by
  have h := infoQu
  rw [Option.map_eq_some_iff] at h
  obtain ⟨j, hj, hs⟩ := h
  exact ⟨j, hj, by omega⟩
theorem ptr_same (a : Nat) (w : World) : (binOp .eql 25 (.pointer (some ⟨a, 0, none⟩)) (.pointer (some ⟨a, 0, none⟩))).run Try.prog w = .ok (.bool true) w := by
  obtain ⟨j, hj, _⟩ := qu_info
  exact run_eql_ptr_same w _ Try.underlying25 hj
theorem QI.cells {w : World} {b : Nat} {X : List Nat} {m l : Int} {L : List Ft} (h : QI w b X m l L) : ∃ cs, w.heap[b]? = some (.cells cs tQu (0, 0)) := by
  obtain ⟨P, ⟨S, F, f, fst, lst, ⟨ab, gm, Y, D, hb, _⟩, _⟩, _⟩ := h
  exact ⟨_, hb⟩
theorem QI.head {w : World} {b : Nat} {X : List Nat} {m l : Int} {L : List Ft} (h : QI w b X m l L) : b ∈ X := by
  obtain ⟨P, h1, _⟩ := h
  exact h1.head
theorem ptr_other {a b : Nat} {w : World} {ca cb : Array Value} (hne : a ≠ b) (ha : w.heap[a]? = some (.cells ca tQu (0, 0))) (hb : w.heap[b]? = some (.cells cb tQu (0, 0))) :
    (binOp .eql 25 (.pointer (some ⟨a, 0, none⟩)) (.pointer (some ⟨b, 0, none⟩))).run Try.prog w = .ok (.bool false) w := by
  obtain ⟨j, hj, hs⟩ := qu_info
  exact run_eql_ptr_other w Try.underlying25 hj hs (fun e => hne (by cases e; rfl)) ha hb
theorem qpour_self (a : Nat) (n : Int) (w : World) : Calls Try.prog 16 #[.pointer (some ⟨a, 0, none⟩), .pointer (some ⟨a, 0, none⟩), .int .i64 n] w fun e w' => e = .returned (.int .i64 0) ∧ w' = w := by
  have hp := ptr_same a
  go_enter Try.func16, Try.ntmps16
  go_wp2
  go_ret
  exact ⟨rfl, rfl⟩

set_option maxRecDepth 100000 in
set_option maxHeartbeats 1600000 in
theorem qpour_any {w : World} {a b : Nat} {X Y : List Nat} {mA lA mB lB : Int} {A B : List Ft} (n : Int) (hA : QI w a X mA lA A) (hB : QI w b Y mB lB B) (hd : ∀ j ∈ X, j ∉ Y) (hAl : A.length ≤ 5000) (hl0 : 0 ≤ lB) (hl1 : lB ≤ 90000) :
    Calls Try.prog 16 #[.pointer (some ⟨a, 0, none⟩), .pointer (some ⟨b, 0, none⟩), .int .i64 n] w fun e w' => e = .returned (.int .i64 (pourK n A B mB)) ∧ QPours w w' a b X Y mA lA mB lB A B (pourK n A B mB) := by
  have hK1 : pourK n A B mB ≤ A.length := by unfold pourK; omega
  have hK2 : (pourK n A B mB : Int) ≤ max n 0 := by unfold pourK; omega
  have hpe : (binOp .eql 25 (.pointer (some ⟨a, 0, none⟩)) (.pointer (some ⟨b, 0, none⟩))).run Try.prog w = .ok (.bool false) w := by
    obtain ⟨ca, ha⟩ := hA.cells
    obtain ⟨cb, hb⟩ := hB.cells
    exact ptr_other (fun e => hd a hA.head (e ▸ hB.head)) ha hb
  obtain ⟨K, hK⟩ : ∃ K, pourK n A B mB = K := ⟨_, rfl⟩
  have hKs := Lib.hid hK
  have hP : QPours w w a b X Y mA lA mB lB A B 0 := ⟨X, Y, by simpa using hA, by rw [pourB_zero]; simpa using hB, hd, Turned.refl _ _, Newer.refl _ _, Newer.refl _ _⟩
  have HP0 := Lib.hid hP
  rw [hK] at hK1 hK2 ⊢
  clear hA hB hP hK
  go_enter Try.func16, Try.ntmps16
  go_wp2
  go_loopw [7] (fun c wr => ∃ k : Nat, c = .int .i64 k ∧ k ≤ K ∧ Hid (QPours w wr a b X Y mA lA mB lB A B k)) (fun c _ => K - (intOf c).toNat)
  case atStart => exact ⟨0, rfl, by omega, HP0⟩
  case round =>
    obtain ⟨k, rfl, hk, HP⟩ := hrel
    have hkd := hKs.out
    have hkd2 : k < K → (k : Int) < n ∧ k < A.length ∧ ((B.length + k : Nat) : Int) < mB := by unfold pourK at hkd; omega
    have hkd3 : ¬ k < K → (k : Int) < n → k < A.length → ¬ ((B.length + k : Nat) : Int) < mB := by unfold pourK at hkd; omega
    have HKD3 := Lib.hid hkd3
    have HL1 := Lib.hid (fun (w' : World) (p : QPours w w' a b X Y mA lA mB lB A B k) => show Calls Try.prog 20 #[.pointer (some ⟨a, 0, none⟩)] w' fun e w'' => e = .returned (.int .i64 ((A.length - k : Nat) : Int)) ∧ ∃ n, w'' = w'.drewN n by
      obtain ⟨X', Y', p1, _⟩ := p
      have := qlen p1
      rwa [List.length_drop] at this)
    have HL2 := Lib.hid (fun (w' : World) (p : QPours w w' a b X Y mA lA mB lB A B k) => show Calls Try.prog 27 #[.pointer (some ⟨b, 0, none⟩)] w' fun e w'' => e = .returned (.bool (decide (((B.length + k : Nat) : Int) < mB))) ∧ ∃ n, w'' = w'.drewN n by
      obtain ⟨X', Y', _, p2, _⟩ := p
      have := qhas p2
      rwa [pourB_len] at this)
    clear hkd hkd3
    by_cases c1 : (k : Int) < n
    · have q1 : decide ((k : Int) < n) = true := by simpa using c1
      by_cases c2 : k < A.length
      · have q2 : decide ((0 : Int) < ((A.length - k : Nat) : Int)) = true := by rw [decide_eq_true_eq]; omega
        have q2' : decide (0 < A.length - k) = true := by rw [decide_eq_true_eq]; omega
        obtain ⟨t, ht⟩ : ∃ t, A.length - k = t := ⟨_, rfl⟩
        rw [ht] at q2 q2' HL1
        go_wp2_with fail
        refine (HL1.out _ HP.out).mono ?_
        rintro e w1 ⟨rfl, n1, rfl⟩
        have P1 := Lib.hid (HP.out.keep0 ((Turned.refl [] wr).drewN n1))
        go_wp2_with fail
        refine (HL2.out _ P1.out).mono ?_
        rintro e w2 ⟨rfl, n2, rfl⟩
        have P2 := Lib.hid (P1.out.keep0 ((Turned.refl [] (wr.drewN n1)).drewN n2))
        obtain ⟨W, hW⟩ : ∃ W, (wr.drewN n1).drewN n2 = W := ⟨_, rfl⟩
        rw [hW] at P2 ⊢
        clear hW P1 HP HL1 HL2 ht
        by_cases c3 : ((B.length + k : Nat) : Int) < mB
        · have q3 : decide (((B.length + k : Nat) : Int) < mB) = true := by simpa using c3
          have hlt : k < K := Classical.byContradiction fun h => (HKD3.out h c1 c2) |> fun h => absurd c3 (by omega)
          rw [q3]
          obtain ⟨X', Y', p1, p2, p3, p4, p5, p6⟩ := P2.out
          have HT := Lib.hid (qtake_first p1 c2)
          have HPU := Lib.hid (fun (w' : World) (hq : QI w' b Y' mB (lB + k) (pourB B lB A k)) => qpush_yes hq (A.getD k (0, 0)).2 (by rw [pourB_len]; exact c3) (by omega))
          obtain ⟨y, hy⟩ : ∃ y, (A.getD k (0, 0)).2 = y := ⟨_, rfl⟩
          rw [hy] at HT HPU
          have HY := Lib.hid hy
          have Q2 := Lib.hid p2
          have Q3 := Lib.hid p3
          have Q4 := Lib.hid p4
          have Q5 := Lib.hid p5
          have Q6 := Lib.hid p6
          clear p1 p2 p3 p4 p5 p6 P2 q3 hkd2 hy
          go_wp2_with fail
          with_reducible refine HT.out.mono ?_
          rintro e w3 ⟨rfl, X2, r1, r2, r3⟩
          have HP2 := Lib.hid (HPU.out w3 ((Q2.out).keep r2 (fun j hj hx => Q3.out j hx hj)))
          have R1 := Lib.hid r1
          have R2 := Lib.hid r2
          have R3 := Lib.hid r3
          clear r1 r2 r3
          go_wp2_with fail
          with_reducible refine HP2.out.mono ?_
          rintro e w4 ⟨rfl, Y2, r1, r2, r3⟩
          have S := Lib.hid (QPours.step Q2.out Q3.out Q4.out Q5.out Q6.out R1.out R2.out R3.out (by rw [HY.out]; exact r1) r2 r3)
          clear r1 r2 r3
          go_wp2
          go_roundw
          case rel => exact ⟨k + 1, by go_num, by omega, S⟩
          case measure => simp [intOf]; omega
        · have q3 : decide (((B.length + k : Nat) : Int) < mB) = false := by simpa using c3
          have hkK : k = K := by
            have := fun h => (hkd2 h).2.2
            omega
          rw [q3]
          clear q3 c3 hkd2
          subst hkK
          go_wp2
          go_ret
          exact ⟨rfl, P2.out⟩
      · have q2 : decide ((0 : Int) < ((A.length - k : Nat) : Int)) = false := by rw [decide_eq_false_iff_not]; omega
        have q2' : decide (0 < A.length - k) = false := by rw [decide_eq_false_iff_not]; omega
        have hkK : k = K := by
          have := fun h => (hkd2 h).2.1
          omega
        obtain ⟨t, ht⟩ : ∃ t, A.length - k = t := ⟨_, rfl⟩
        rw [ht] at q2 q2' HL1
        clear hkd2 c2 ht
        subst hkK
        go_wp2_with fail
        refine (HL1.out _ HP.out).mono ?_
        rintro e w1 ⟨rfl, n1, rfl⟩
        have P1 := Lib.hid (HP.out.keep0 ((Turned.refl [] wr).drewN n1))
        go_wp2
        go_ret
        exact ⟨rfl, P1.out⟩
    · have q1 : decide ((k : Int) < n) = false := by simpa using c1
      have hkK : k = K := by
        have := fun h => (hkd2 h).1
        omega
      clear hkd2 c1
      subst hkK
      go_wp2
      go_ret
      exact ⟨rfl, HP.out⟩

/-- What is to be said of queues. -/
def queues : QSaid where
  At := QI
  keep := QI.keep
  lt := QI.lt
  new := qnew
  len := qlen
  push := fun v h _ _ hl => qpush v h hl
  pop := fun h _ => qpop h
  remove := fun t ht h _ => qremove t ht h
  get := fun t ht h _ => qget t ht h
  pour := fun n hA hB hd hAl _ hl0 hl1 => qpour_any n hA hB hd hAl hl0 hl1
end Go.Proofs.Ytnoiifnknkakoaa
