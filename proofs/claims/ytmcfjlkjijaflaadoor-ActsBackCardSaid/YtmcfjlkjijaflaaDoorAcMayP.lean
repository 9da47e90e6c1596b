/-
  The program's mayAct.
-/
import Derived.Test.YtmcfjlkjijaflaaDoorAcShape
import Derived.IntWalk
namespace Go.Proofs.YtmcfjlkjijaflaaDoor
open Go.RowKit

def xN (x0 x1 x2 x3 : Int) : Nat → Int
  | 0 => x0
  | 1 => x1
  | 2 => x2
  | _ => x3
def okA (m x : Int) (j : Nat) : Bool := decide (0 ≤ x) && decide (x ≤ mostA m (j : Int))
theorem acmay_ok (k x0 x1 x2 x3 : Int) : acMay (k, x0, x1, x2, x3) = (okA (acMany k : Nat) x0 0 && (okA (acMany k : Nat) x1 1 && (okA (acMany k : Nat) x2 2 && (okA (acMany k : Nat) x3 3 && !decide (acName k = []))))) := by
  have hm : acMany k = 0 ∨ acMany k = 1 ∨ acMany k = 2 ∨ acMany k = 4 := by
    unfold acMany
    split
    · exact .inr (.inl rfl)
    · split
      · exact .inr (.inr (.inr rfl))
      · split
        · exact .inr (.inr (.inl rfl))
        · exact .inl rfl
  unfold acMay acNums
  rw [Bool.eq_iff_iff]
  by_cases hn : acName k = []
  · simp [hn]
  · rcases hm with h | h | h | h <;> rw [h] <;> simp [hn, okA, in9, mostA] <;> omega
theorem acmay_yes {k x0 x1 x2 x3 : Int} (h : ∀ j : Nat, j < 4 → okA (acMany k : Nat) (xN x0 x1 x2 x3 j) j = true) : acMay (k, x0, x1, x2, x3) = !decide (acName k = []) := by
  have h0 := h 0 (by omega)
  have h1 := h 1 (by omega)
  have h2 := h 2 (by omega)
  have h3 := h 3 (by omega)
  simp only [xN] at h0 h1 h2 h3
  rw [acmay_ok, h0, h1, h2, h3]
  rfl
theorem acmay_no {k x0 x1 x2 x3 : Int} {j : Nat} (hj : j < 4) (h : okA (acMany k : Nat) (xN x0 x1 x2 x3 j) j = false) : acMay (k, x0, x1, x2, x3) = false := by
  rw [acmay_ok]
  have : j = 0 ∨ j = 1 ∨ j = 2 ∨ j = 3 := by omega
  rcases this with rfl | rfl | rfl | rfl <;> simp only [xN] at h <;> rw [h] <;> simp
theorem xn_cases {x0 x1 x2 x3 : Int} {j : Nat} (hj : j < 4) : (j = 0 ∧ xN x0 x1 x2 x3 j = x0) ∨ (j = 1 ∧ xN x0 x1 x2 x3 j = x1) ∨ (j = 2 ∧ xN x0 x1 x2 x3 j = x2) ∨ (j = 3 ∧ xN x0 x1 x2 x3 j = x3) := by
  have : j = 0 ∨ j = 1 ∨ j = 2 ∨ j = 3 := by omega
  rcases this with rfl | rfl | rfl | rfl <;> simp [xN]
/-- The boxes of the act and of its shape. -/
structure MaI (w V : World) (S : Nat) (a sh : Array Value) : Prop where
  bel : Below w.heap.size w V
  act : V.heap[w.heap.size]? = some (.cells a 69 (0, 0))
  shp : V.heap[S]? = some (.cells sh 104 (0, 0))
theorem MaI.below {w V V' : World} {S : Nat} {a sh : Array Value} (h : MaI w V S a sh) (hb : Below V.heap.size V V') : MaI w V' S a sh :=
  ⟨h.bel.trans (hb.mono h.bel.size), (hb.block _ (lt_of_block h.act)).trans h.act, (hb.block _ (lt_of_block h.shp)).trans h.shp⟩
theorem MaI.start {w w1 : World} {a sh : Array Value} (hb : Below (w.alloc (.cells a 69)).heap.size (w.alloc (.cells a 69)) w1) : MaI w (w1.alloc (.cells sh 104)) w1.heap.size a sh := by
  obtain ⟨h1, h2⟩ := box_kept hb
  exact ⟨h2.alloc h2.size _, (Below.heap_alloc _ _ _ (lt_of_block h1)).trans h1, heap_alloc_new _ _⟩
set_option maxRecDepth 100000 in
set_option maxHeartbeats 6400000 in
theorem mayact_any (k x0 x1 x2 x3 : Int) (w : World) : Calls Tryd.prog 74 #[.agg #[.int .i64 k, .int .i64 x0, .int .i64 x1, .int .i64 x2, .int .i64 x3]] w fun e w' => e = .returned (.bool (acMay (k, x0, x1, x2, x3))) ∧ Below w.heap.size w w' := by
  have HYES := Lib.hid (fun h => acmay_yes (k := k) (x0 := x0) (x1 := x1) (x2 := x2) (x3 := x3) h)
  have HNO := Lib.hid (fun j (hj : j < 4) h => acmay_no (k := k) (x0 := x0) (x1 := x1) (x2 := x2) (x3 := x3) (j := j) hj h)
  obtain ⟨A, hA⟩ : ∃ A, acMay (k, x0, x1, x2, x3) = A := ⟨_, rfl⟩
  rw [hA] at HYES HNO ⊢
  have h := fun W => ashape_any k W
  obtain ⟨s, m, e, hs, hm⟩ := ashape_let k
  rw [← hm] at HYES HNO
  rw [← hs] at HYES
  rw [← Lib.toList_data] at HYES
  simp only [e] at h
  have H := Lib.hid h
  have HNO' := Lib.hid (fun W => numbersof_any k x0 x1 x2 x3 W)
  have HMY := Lib.hid (fun (p : Int) W => amay_any s m p W)
  have HHA := Lib.hid (fun (hi n : Int) W => has_any 0 hi n W)
  clear h e hs hm hA
  have ix0 : ∀ W, (Instr.index 120 (.agg #[.int .i64 x0, .int .i64 x1, .int .i64 x2, .int .i64 x3]) (.int .i64 0)).run Tryd.prog W = .ok (.int .i64 x0) W := fun _ => by kernel_rfl
  have ix1 : ∀ W, (Instr.index 120 (.agg #[.int .i64 x0, .int .i64 x1, .int .i64 x2, .int .i64 x3]) (.int .i64 1)).run Tryd.prog W = .ok (.int .i64 x1) W := fun _ => by kernel_rfl
  have ix2 : ∀ W, (Instr.index 120 (.agg #[.int .i64 x0, .int .i64 x1, .int .i64 x2, .int .i64 x3]) (.int .i64 2)).run Tryd.prog W = .ok (.int .i64 x2) W := fun _ => by kernel_rfl
  have ix3 : ∀ W, (Instr.index 120 (.agg #[.int .i64 x0, .int .i64 x1, .int .i64 x2, .int .i64 x3]) (.int .i64 3)).run Tryd.prog W = .ok (.int .i64 x3) W := fun _ => by kernel_rfl
  go_enter Tryd.func74, Tryd.ntmps74
  go_wp2_with fail
  with_reducible refine (H.out _).mono ?_
  rintro e w1 ⟨rfl, hb⟩
  have HI1 := Lib.hid (MaI.start (sh := #[.string s, .int .i64 m]) hb)
  have HW : Hid (∃ W, w1.alloc (.cells #[.string s, .int .i64 m] 104) = W) := ⟨_, rfl⟩
  obtain ⟨c0, c1, c2, c3, c4⟩ := act_cells (box_kept hb).1
  have hl1 := lt_of_block (box_kept hb).1
  clear hb
  have HS : Hid (∃ S, w1.heap.size = S) := ⟨_, rfl⟩
  go_wp2_with fail
  obtain ⟨S, hS⟩ := HS.out
  rw [hS] at HI1 ⊢
  obtain ⟨W, hW⟩ := HW.out
  rw [hW] at HI1 ⊢
  clear hW HW hS HS c0 c1 c2 c3 c4 hl1
  with_reducible refine (HNO'.out _).mono ?_
  rintro e w2 ⟨rfl, hb⟩
  have HI2 := Lib.hid (HI1.out.below hb)
  clear hb
  go_wp2_with fail
  go_loopw [11] (fun i' wr => ∃ i : Nat, i' = .int .i64 i ∧ i ≤ 4 ∧ Hid (MaI w wr S #[.int .i64 k, .int .i64 x0, .int .i64 x1, .int .i64 x2, .int .i64 x3] #[.string s, .int .i64 m]) ∧ Hid (∀ j : Nat, j < i → okA m (xN x0 x1 x2 x3 j) j = true)) (fun i' _ => 4 - (intOf i').toNat)
  case atStart => exact ⟨0, rfl, by omega, HI2, fun j h => by omega⟩
  case round =>
    obtain ⟨i, rfl, hi, HI, HO⟩ := hrel
    by_cases hlt : i < 4
    · have hstep : ∀ q, okA m (xN x0 x1 x2 x3 i) i = q → q = true → ∀ j : Nat, j < i + 1 → okA m (xN x0 x1 x2 x3 j) j = true := fun q hq1 hq2 j hj => by
        rcases Nat.lt_or_ge j i with h | h
        · exact HO.out j h
        · obtain rfl : j = i := by omega
          rw [hq1, hq2]
      obtain ⟨q, hq⟩ : ∃ q, okA m (xN x0 x1 x2 x3 i) i = q := ⟨_, rfl⟩
      have HST := Lib.hid (hstep q hq)
      have HQ := Lib.hid hq
      have HQN : Hid (q = false → A = false) := Lib.hid (fun h => HNO.out i hlt (hq.trans h))
      clear hstep
      obtain ⟨d0, d1⟩ := two_cells HI.out.shp
      have hha : ∀ W, Calls Tryd.prog 67 #[.agg #[.int .i64 0, .int .i64 (mostA m (i : Int))], .int .i64 (xN x0 x1 x2 x3 i)] W fun e w' => e = .returned (.bool q) ∧ Below W.heap.size W w' := fun W => by
        have h := HHA.out (mostA m (i : Int)) (xN x0 x1 x2 x3 i) W
        rw [show (decide (0 ≤ xN x0 x1 x2 x3 i) && decide (xN x0 x1 x2 x3 i ≤ mostA m (i : Int))) = q from hq] at h
        exact h
      have hmy := fun W => HMY.out (i : Int) W
      have hcast : ((0 : Nat) : Int) = 0 ∧ ((1 : Nat) : Int) = 1 ∧ ((2 : Nat) : Int) = 2 ∧ ((3 : Nat) : Int) = 3 := ⟨rfl, rfl, rfl, rfl⟩
      clear hq
      rcases xn_cases (x0 := x0) (x1 := x1) (x2 := x2) (x3 := x3) hlt with ⟨rfl, hx⟩ | ⟨rfl, hx⟩ | ⟨rfl, hx⟩ | ⟨rfl, hx⟩
      all_goals
        rw [hx] at hha
        simp only [hcast] at hha hmy ⊢
        clear hcast
        have HHI := Lib.hid hha
        have HMI := Lib.hid hmy
        clear hha hmy hx
        go_wp2_with fail
        with_reducible refine (HMI.out _).mono ?_
        rintro e w3 ⟨rfl, hb⟩
        have HI3 := Lib.hid (HI.out.below hb)
        clear hb d0 d1
        go_wp2_with fail
        with_reducible refine (HHI.out _).mono ?_
        rintro e w4 ⟨rfl, hb⟩
        have HI4 := Lib.hid (HI3.out.below hb)
        clear hb
        cases q with
        | true =>
          go_wp2
          go_roundw
          case rel => exact ⟨_, by go_num, by omega, HI4, HST.out (by trivial)⟩
          case measure => simp [intOf]
        | false =>
          go_wp2
          go_ret
          exact ⟨congrArg (fun x => Ending.returned (.bool x)) (HQN.out (by trivial)).symm, HI4.out.bel⟩
    · obtain rfl : i = 4 := by omega
      have ha := HYES.out (fun j hj => HO.out j hj)
      obtain ⟨d0, d1⟩ := two_cells HI.out.shp
      by_cases he : s.toList = []
      · have q0 : (s.toList == []) = true := by rw [he]; rfl
        rw [decide_eq_true he] at ha
        have HA := Lib.hid ha
        clear ha
        go_wp2
        go_ret
        exact ⟨by rw [HA.out]; rfl, HI.out.bel⟩
      · have q0 : (s.toList == []) = false := by simpa using he
        have q1 : s.toList.isEmpty = false := by simpa using he
        rw [decide_eq_false he] at ha
        have HA := Lib.hid ha
        clear ha
        go_wp2
        go_ret
        exact ⟨by rw [HA.out]; rfl, HI.out.bel⟩
end Go.Proofs.YtmcfjlkjijaflaaDoor
