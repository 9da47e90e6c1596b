/-
  UnitCalls' walk, given what is said of the program's unit. (Made by gen_uncalls.py.)
-/
import Derived.Test.YtaohihfhgialnaaUnSaid
import Derived.Deep.RegionHeld3
namespace Go.Proofs.Ytaohihfhgialnaa
open Go.RowKit

/-- The boxes of the numbers. -/
structure UcK (w : World) (n0 n1 n2 v0 v1 v2 : Int) (V : World) : Prop where
  nb : V.heap[w.heap.size]? = some (.cells #[.int .i64 n0, .int .i64 n1, .int .i64 n2] 22 (0, 0))
  vb : V.heap[w.heap.size + 1]? = some (.cells #[.int .u64 v0, .int .u64 v1, .int .u64 v2] 24 (0, 0))
  bel : Below w.heap.size w V
section
variable {w V V' : World} {n0 n1 n2 v0 v1 v2 : Int}
theorem UcK.keep (h : UcK w n0 n1 n2 v0 v1 v2 V) (hb : Below V.heap.size V V') : UcK w n0 n1 n2 v0 v1 v2 V' :=
  ⟨(hb.block _ (lt_of_block h.nb)).trans h.nb, (hb.block _ (lt_of_block h.vb)).trans h.vb, h.bel.trans (hb.mono h.bel.size)⟩
theorem UcK.start (w : World) (n0 n1 n2 v0 v1 v2 : Int) : UcK w n0 n1 n2 v0 v1 v2 ((w.alloc (.cells #[.int .i64 n0, .int .i64 n1, .int .i64 n2] 22)).alloc (.cells #[.int .u64 v0, .int .u64 v1, .int .u64 v2] 24)) := by
  have hz := heap_alloc_new (w.alloc (.cells #[.int .i64 n0, .int .i64 n1, .int .i64 n2] 22)) (.cells #[.int .u64 v0, .int .u64 v1, .int .u64 v2] 24)
  rw [World.size_alloc] at hz
  exact ⟨(Below.heap_alloc _ _ _ (by simp)).trans (heap_alloc_new w _), hz, ((Below.refl _ w).alloc (Nat.le_refl _) _).alloc (by simp) _⟩
theorem three_at {B : Nat} {a b c : Value} {t : TypeId} (h : V.heap[B]? = some (.cells #[a, b, c] t (0, 0))) :
    V.cell? ⟨B, 0, none⟩ = some a ∧ V.cell? ⟨B, 1, none⟩ = some b ∧ V.cell? ⟨B, 2, none⟩ = some c := by
  refine ⟨?_, ?_, ?_⟩ <;> simp [World.cell?, h]
theorem UcK.view (h : UcK w n0 n1 n2 v0 v1 v2 V) : V.cell? ⟨w.heap.size, 0, none⟩ = some (.int .i64 n0) ∧ V.cell? ⟨w.heap.size, 1, none⟩ = some (.int .i64 n1) ∧ V.cell? ⟨w.heap.size, 2, none⟩ = some (.int .i64 n2) ∧ V.cell? ⟨w.heap.size + 1, 0, none⟩ = some (.int .u64 v0) ∧ V.cell? ⟨w.heap.size + 1, 1, none⟩ = some (.int .u64 v1) ∧ V.cell? ⟨w.heap.size + 1, 2, none⟩ = some (.int .u64 v2) ∧ UcK w n0 n1 n2 v0 v1 v2 V := by
  obtain ⟨x0, x1, x2⟩ := three_at h.nb
  obtain ⟨y0, y1, y2⟩ := three_at h.vb
  exact ⟨x0, x1, x2, y0, y1, y2, h⟩
end
set_option maxRecDepth 100000 in
set_option maxHeartbeats 12800000 in
theorem unitcalls_walk (S : UnSaid) (n0 n1 n2 v0 v1 v2 : Int) (hv0 : Word v0) (hv1 : Word v1) (hv2 : Word v2) (w : World) :
    Calls Try.prog 3 #[.agg #[.int .i64 n0, .int .i64 n1, .int .i64 n2], .agg #[.int .u64 v0, .int .u64 v1, .int .u64 v2]] w fun e w' => e = .returned (.bool true) ∧ Below w.heap.size w w' := by
  have hk0 := UcK.start w n0 n1 n2 v0 v1 v2
  have haw : ∀ V, UcK w n0 n1 n2 v0 v1 v2 V → Calls Try.prog 5 #[] V fun e w' => e = .returned (.bool true) ∧ UcK w n0 n1 n2 v0 v1 v2 w' := fun V hV => (awake15 S V).mono fun e w' h => ⟨h.1, hV.keep h.2⟩
  have hpa : ∀ V, UcK w n0 n1 n2 v0 v1 v2 V → Calls Try.prog 6 #[.int .i64 n0] V fun e w' => e = .returned (.int .u64 (coreR n0)) ∧ UcK w n0 n1 n2 v0 v1 v2 w' := fun V hV => (S.core n0 V).mono fun e w' h => ⟨h.1, hV.keep h.2⟩
  have hra : ∀ V, UcK w n0 n1 n2 v0 v1 v2 V → Calls Try.prog 7 #[.int .i64 n0] V fun e w' => e = .returned (.int .u64 (coreR n0)) ∧ UcK w n0 n1 n2 v0 v1 v2 w' := fun V hV => (rcore_any n0 V).mono fun e w' h => ⟨h.1, by rw [h.2]; exact hV⟩
  have hpb : ∀ V, UcK w n0 n1 n2 v0 v1 v2 V → Calls Try.prog 8 #[.int .i64 n0] V fun e w' => e = .returned (.int .u64 (lockR n0)) ∧ UcK w n0 n1 n2 v0 v1 v2 w' := fun V hV => (S.lock n0 V).mono fun e w' h => ⟨h.1, by obtain ⟨_, q, rfl⟩ := h; exact hV.keep (below_drews V q)⟩
  have hrb : ∀ V, UcK w n0 n1 n2 v0 v1 v2 V → Calls Try.prog 9 #[.int .i64 n0] V fun e w' => e = .returned (.int .u64 (lockR n0)) ∧ UcK w n0 n1 n2 v0 v1 v2 w' := fun V hV => (rlock_any n0 V).mono fun e w' h => ⟨h.1, by rw [h.2]; exact hV⟩
  have hpc : ∀ V, UcK w n0 n1 n2 v0 v1 v2 V → Calls Try.prog 10 #[.int .i64 n0, .int .i64 n1] V fun e w' => e = .returned (.int .u64 (reachR n0 n1)) ∧ UcK w n0 n1 n2 v0 v1 v2 w' := fun V hV => (S.reach n0 n1 V).mono fun e w' h => ⟨h.1, hV.keep h.2⟩
  have hrc : ∀ V, UcK w n0 n1 n2 v0 v1 v2 V → Calls Try.prog 11 #[.int .i64 n0, .int .i64 n1] V fun e w' => e = .returned (.int .u64 (reachR n0 n1)) ∧ UcK w n0 n1 n2 v0 v1 v2 w' := fun V hV => (rreach_any n0 n1 V).mono fun e w' h => ⟨h.1, by rw [h.2]; exact hV⟩
  have hpd : ∀ V, UcK w n0 n1 n2 v0 v1 v2 V → Calls Try.prog 12 #[.int .i64 n0, .int .i64 n1, .int .i64 n2] V fun e w' => e = .returned (.int .u64 (slackR n0 n1 n2)) ∧ UcK w n0 n1 n2 v0 v1 v2 w' := fun V hV => (S.slack n0 n1 n2 V).mono fun e w' h => ⟨h.1, hV.keep h.2⟩
  have hrd : ∀ V, UcK w n0 n1 n2 v0 v1 v2 V → Calls Try.prog 13 #[.int .i64 n0, .int .i64 n1, .int .i64 n2] V fun e w' => e = .returned (.int .u64 (slackR n0 n1 n2)) ∧ UcK w n0 n1 n2 v0 v1 v2 w' := fun V hV => (rslack_any n0 n1 n2 V).mono fun e w' h => ⟨h.1, by rw [h.2]; exact hV⟩
  have hpe : ∀ V, UcK w n0 n1 n2 v0 v1 v2 V → Calls Try.prog 14 #[.int .u64 v0, .int .u64 v1, .int .u64 v2] V fun e w' => e = .returned (.int .u64 (clampR v0 v1 v2)) ∧ UcK w n0 n1 n2 v0 v1 v2 w' := fun V hV => (S.clamp v0 v1 v2 V hv0 hv1 hv2).mono fun e w' h => ⟨h.1, hV.keep h.2⟩
  have hre : ∀ V, UcK w n0 n1 n2 v0 v1 v2 V → Calls Try.prog 15 #[.int .u64 v0, .int .u64 v1, .int .u64 v2] V fun e w' => e = .returned (.int .u64 (clampR v0 v1 v2)) ∧ UcK w n0 n1 n2 v0 v1 v2 w' := fun V hV => (rclamp_any v0 v1 v2 hv1 hv2 V).mono fun e w' h => ⟨h.1, hV.keep h.2⟩
  obtain ⟨xa, hxa⟩ : ∃ x, coreR n0 = x := ⟨_, rfl⟩
  simp only [hxa] at hpa hra
  have qa : (xa == xa) = true := by simp
  obtain ⟨xb, hxb⟩ : ∃ x, lockR n0 = x := ⟨_, rfl⟩
  simp only [hxb] at hpb hrb
  have qb : (xb == xb) = true := by simp
  obtain ⟨xc, hxc⟩ : ∃ x, reachR n0 n1 = x := ⟨_, rfl⟩
  simp only [hxc] at hpc hrc
  have qc : (xc == xc) = true := by simp
  obtain ⟨xd, hxd⟩ : ∃ x, slackR n0 n1 n2 = x := ⟨_, rfl⟩
  simp only [hxd] at hpd hrd
  have qd : (xd == xd) = true := by simp
  obtain ⟨xe, hxe⟩ : ∃ x, clampR v0 v1 v2 = x := ⟨_, rfl⟩
  simp only [hxe] at hpe hre
  have qe : (xe == xe) = true := by simp
  have HAW := Lib.hid haw
  have HK0 := Lib.hid hk0
  have HPa := Lib.hid hpa
  have HRa := Lib.hid hra
  have HPb := Lib.hid hpb
  have HRb := Lib.hid hrb
  have HPc := Lib.hid hpc
  have HRc := Lib.hid hrc
  have HPd := Lib.hid hpd
  have HRd := Lib.hid hrd
  have HPe := Lib.hid hpe
  have HRe := Lib.hid hre
  clear haw hk0 hpa hra hxa hpb hrb hxb hpc hrc hxc hpd hrd hxd hpe hre hxe hv0 hv1 hv2
  go_enter Try.func3, Try.ntmps3
  go_wp2_with fail
  with_reducible refine (HAW.out _ HK0.out).mono ?_
  rintro e w1 ⟨rfl, k1⟩
  obtain ⟨c0, c1, c2, d0, d1, d2, ck⟩ := (k1.keep (Below.refl _ _).drew).view
  clear k1
  go_wp2_with fail
  go_region_held3 (fun V => V.cell? ⟨w.heap.size, 0, none⟩ = some (.int .i64 n0) ∧ V.cell? ⟨w.heap.size, 1, none⟩ = some (.int .i64 n1) ∧ V.cell? ⟨w.heap.size, 2, none⟩ = some (.int .i64 n2) ∧ V.cell? ⟨w.heap.size + 1, 0, none⟩ = some (.int .u64 v0) ∧ V.cell? ⟨w.heap.size + 1, 1, none⟩ = some (.int .u64 v1) ∧ V.cell? ⟨w.heap.size + 1, 2, none⟩ = some (.int .u64 v2) ∧ UcK w n0 n1 n2 v0 v1 v2 V)
    (first | exact ⟨c0, c1, c2, d0, d1, d2, ck⟩)
    (first
      | (go_at_call 6; with_reducible refine (HPa.out _ ck).mono ?_; rintro e w' ⟨rfl, kk⟩; obtain ⟨c0, c1, c2, d0, d1, d2, ck⟩ := kk.view)
      | (go_at_call 7; with_reducible refine (HRa.out _ ck).mono ?_; rintro e w' ⟨rfl, kk⟩; obtain ⟨c0, c1, c2, d0, d1, d2, ck⟩ := kk.view)
      | (go_at_call 8; with_reducible refine (HPb.out _ ck).mono ?_; rintro e w' ⟨rfl, kk⟩; obtain ⟨c0, c1, c2, d0, d1, d2, ck⟩ := kk.view)
      | (go_at_call 9; with_reducible refine (HRb.out _ ck).mono ?_; rintro e w' ⟨rfl, kk⟩; obtain ⟨c0, c1, c2, d0, d1, d2, ck⟩ := kk.view)
      | (go_at_call 10; with_reducible refine (HPc.out _ ck).mono ?_; rintro e w' ⟨rfl, kk⟩; obtain ⟨c0, c1, c2, d0, d1, d2, ck⟩ := kk.view)
      | (go_at_call 11; with_reducible refine (HRc.out _ ck).mono ?_; rintro e w' ⟨rfl, kk⟩; obtain ⟨c0, c1, c2, d0, d1, d2, ck⟩ := kk.view)
      | (go_at_call 12; with_reducible refine (HPd.out _ ck).mono ?_; rintro e w' ⟨rfl, kk⟩; obtain ⟨c0, c1, c2, d0, d1, d2, ck⟩ := kk.view)
      | (go_at_call 13; with_reducible refine (HRd.out _ ck).mono ?_; rintro e w' ⟨rfl, kk⟩; obtain ⟨c0, c1, c2, d0, d1, d2, ck⟩ := kk.view)
      | (go_at_call 14; with_reducible refine (HPe.out _ ck).mono ?_; rintro e w' ⟨rfl, kk⟩; obtain ⟨c0, c1, c2, d0, d1, d2, ck⟩ := kk.view)
      | (go_at_call 15; with_reducible refine (HRe.out _ ck).mono ?_; rintro e w' ⟨rfl, kk⟩; obtain ⟨c0, c1, c2, d0, d1, d2, ck⟩ := kk.view))
  all_goals (go_wp2; go_ret; exact ⟨by simp, ck.bel⟩)
end Go.Proofs.Ytaohihfhgialnaa
