/-
  What is said of the program's unit; layer 15's awake. (Made by gen_uncalls.py.)
-/
import Derived.Test.YtaohihfhgialnaaUnRef
import Derived.Test.YtaohihfhgialnaaIArg
namespace Go.Proofs.Ytaohihfhgialnaa
open Go.RowKit

/-- What is said of the program's unit. -/
structure UnSaid where
  core : ∀ (n : Int) (w : World), Calls Try.prog 6 #[.int .i64 n] w fun e w' => e = .returned (.int .u64 (coreR n)) ∧ Below w.heap.size w w'
  lock : ∀ (n : Int) (w : World), Calls Try.prog 8 #[.int .i64 n] w fun e w' => e = .returned (.int .u64 (lockR n)) ∧ ∃ q, w' = w.drewN q
  reach : ∀ (n g : Int) (w : World), Calls Try.prog 10 #[.int .i64 n, .int .i64 g] w fun e w' => e = .returned (.int .u64 (reachR n g)) ∧ Below w.heap.size w w'
  slack : ∀ (n s c : Int) (w : World), Calls Try.prog 12 #[.int .i64 n, .int .i64 s, .int .i64 c] w fun e w' => e = .returned (.int .u64 (slackR n s c)) ∧ Below w.heap.size w w'
  clamp : ∀ (v f r : Int) (w : World), Word v → Word f → Word r → Calls Try.prog 14 #[.int .u64 v, .int .u64 f, .int .u64 r] w fun e w' => e = .returned (.int .u64 (clampR v f r)) ∧ Below w.heap.size w w'
  fair : ∀ (ao : Option Addr) (b off c : Nat) (bo : Option Addr) (b2 off2 c2 : Nat) (ts ws : List Int) (k : Int) (w : World), IArg w ao b off ts → IArg w bo b2 off2 ws → ts.length ≤ 100000 → ws.length ≤ 100000 →
    Calls Try.prog 16 #[.slice ao ts.length c, .slice bo ws.length c2, .int .i64 k] w fun e w' => e = .returned (.bool (fairR ts ws k)) ∧ Below w.heap.size w w'
theorem two_ints (w : World) (x y : Int) : IArg (w.alloc (.cells #[.int .i64 x, .int .i64 y] 3)) (some ⟨w.heap.size, 0, none⟩) w.heap.size 0 [x, y] := by
  refine ⟨fun _ => ⟨rfl, by simp⟩, fun i hi => ?_⟩
  have h := heap_alloc_new w (.cells #[.int .i64 x, .int .i64 y] 3)
  generalize w.alloc (.cells #[.int .i64 x, .int .i64 y] 3) = V at h ⊢
  have hi2 : i < 2 := hi
  have : i = 0 ∨ i = 1 := by omega
  rcases this with rfl | rfl <;> simp [World.cell?, h]
theorem below_drews (w : World) (q : Nat) : Below w.heap.size w (w.drewN q) := ⟨rfl, rfl, rfl, Nat.le_refl _, fun _ _ => rfl⟩
/-- Fair of two new lists of two. -/
theorem fair_fresh (S : UnSaid) (x y u v k : Int) (w : World) : Calls Try.prog 16 #[.slice (some ⟨w.heap.size, 0, none⟩) 2 2, .slice (some ⟨w.heap.size + 1, 0, none⟩) 2 2, .int .i64 k]
    ((w.alloc (.cells #[.int .i64 x, .int .i64 y] 3)).alloc (.cells #[.int .i64 u, .int .i64 v] 3)) fun e w' => e = .returned (.bool (fairR [x, y] [u, v] k)) ∧ Below w.heap.size w w' := by
  have h1 := two_ints w x y
  have h2 := two_ints (w.alloc (.cells #[.int .i64 x, .int .i64 y] 3)) u v
  rw [World.size_alloc] at h2
  have h3 : Below w.heap.size w ((w.alloc (.cells #[.int .i64 x, .int .i64 y] 3)).alloc (.cells #[.int .i64 u, .int .i64 v] 3)) := ((Below.refl _ w).alloc (Nat.le_refl _) _).alloc (by simp) _
  have h4 := h1.below (((Below.refl _ _).alloc (Nat.le_refl _) (.cells #[.int .i64 u, .int .i64 v] 3)))
  refine (S.fair _ _ 0 2 _ _ 0 2 [x, y] [u, v] k _ h4 h2 (by simp) (by simp)).mono ?_
  rintro e w' ⟨rfl, hb⟩
  exact ⟨rfl, h3.trans (hb.mono h3.size)⟩
set_option maxRecDepth 100000 in
set_option maxHeartbeats 3200000 in
theorem awake15 (S : UnSaid) (w : World) : Calls Try.prog 5 #[] w fun e w' => e = .returned (.bool true) ∧ Below w.heap.size w w' := by
  have e1 : coreR 4 = 274877906944 := by decide
  have e2 : lockR 16 = 45045 := by decide
  have e3 : fairR [3, 1] [2, 1] 1 = true := by decide +kernel
  have e4 : fairR [3, 1] [1, 1] 0 = false := by decide +kernel
  have e5 : clampR 5 9 3 = 9 := by decide
  have H1 := Lib.hid (fun V => S.core 4 V)
  have H2 := Lib.hid (fun V => S.lock 16 V)
  have H3 := Lib.hid (fair_fresh S 3 1 2 1 1)
  have H4 := Lib.hid (fair_fresh S 3 1 1 1 0)
  have H5 := Lib.hid (fun V => S.clamp 5 9 3 V (by unfold Word; omega) (by unfold Word; omega) (by unfold Word; omega))
  rw [e1] at H1
  rw [e2] at H2
  rw [e3] at H3
  rw [e4] at H4
  rw [e5] at H5
  clear e1 e2 e3 e4 e5
  go_enter Try.func5, Try.ntmps5
  go_wp2_with fail
  with_reducible refine (H1.out _).mono ?_
  rintro e w1 ⟨rfl, hb⟩
  have HB1 := Lib.hid hb
  clear hb
  go_wp2_with fail
  with_reducible refine (H2.out _).mono ?_
  rintro e w2 ⟨rfl, q2, hq2⟩
  have hb : Below w1.heap.size w1 w2 := hq2 ▸ below_drews w1 q2
  clear hq2
  have HB2 := Lib.hid (HB1.out.trans (hb.mono HB1.out.size))
  clear hb
  go_wp2_with fail
  with_reducible refine (H3.out _).mono ?_
  rintro e w3 ⟨rfl, hb⟩
  have HB3 := Lib.hid (HB2.out.trans (hb.mono HB2.out.size))
  clear hb
  go_wp2_with fail
  with_reducible refine (H4.out _).mono ?_
  rintro e w4 ⟨rfl, hb⟩
  have HB4 := Lib.hid (HB3.out.trans (hb.mono HB3.out.size))
  clear hb
  go_wp2_with fail
  with_reducible refine (H5.out _).mono ?_
  rintro e w5 ⟨rfl, hb⟩
  have HB5 := Lib.hid (HB4.out.trans (hb.mono HB4.out.size))
  clear hb
  go_wp2
  go_ret
  exact ⟨rfl, HB5.out⟩
end Go.Proofs.Ytaohihfhgialnaa
