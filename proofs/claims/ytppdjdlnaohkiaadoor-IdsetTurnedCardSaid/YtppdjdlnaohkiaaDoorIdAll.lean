/-
  The program's sets: First, All, and what a loop over All hands out.
-/
import Derived.Test.YtppdjdlnaohkiaaDoorIdCount
import Derived.Test.YtppdjdlnaohkiaaDoorMild
import Derived.Sort.LoopGhostIn
namespace Go.Proofs.YtppdjdlnaohkiaaDoor
open Go.RowKit Go.Maps Go.Shelf
attribute [local go_sem] Oper.semAt_some

theorem list_zero : listN 0 = [] := by simp [listN]
theorem filter_split (p : Nat → Bool) (k m : Nat) : (List.range (k + 1 + m)).filter p = (List.range k).filter p ++ ((if p k then [k] else []) ++ ((List.range m).map (k + 1 + ·)).filter p) := by
  rw [List.range_add, List.range_succ, List.filter_append, List.filter_append, List.append_assoc]
  congr 1
  cases h : p k <;> simp [h]
/-- The least one, and the others. -/
theorem list_ctz {s : Nat} (h0 : s ≠ 0) (hs : s < 18446744073709551616) : listN s = (Lib.ctz 64 s : Int) :: listN (withoutN s (Lib.ctz 64 s)) ∧ Lib.ctz 64 s < 64 := by
  obtain ⟨m, hm, hk⟩ := Lib.ctzFrom_spec 64 s (by omega) (by omega)
  have hc : Lib.ctz 64 s = Lib.ctzFrom 64 s := by unfold Lib.ctz; rw [if_neg h0]
  rw [← hc] at hm hk
  obtain ⟨k, hkk⟩ : ∃ k, Lib.ctz 64 s = k := ⟨_, rfl⟩
  rw [hkk] at hm hk ⊢
  have hbit : ∀ j, s.testBit j = (decide (k ≤ j) && (2 * m + 1).testBit (j - k)) := fun j => by
    rw [hm, Nat.mul_comm, Nat.testBit_mul_two_pow]
  have hin : s.testBit k = true := by rw [hbit]; simp
  have hlow : ∀ j, j < k → s.testBit j = false := fun j hj => by rw [hbit]; simp; omega
  have hok : okI (k : Int) = true := by simp [okI]; omega
  have hw : ∀ j, (withoutN s (k : Int)).testBit j = (s.testBit j && !decide (k = j)) := fun j => by
    rw [bit_without, hok, Bool.true_and, Int.toNat_natCast]
  obtain ⟨d, hd⟩ : ∃ d, 64 = k + 1 + d := ⟨63 - k, by omega⟩
  refine ⟨?_, hk⟩
  unfold listN
  rw [hd, filter_split, filter_split]
  have e1 : (List.range k).filter (fun j => s.testBit j) = [] := List.filter_eq_nil_iff.2 fun j hj => by rw [hlow j (List.mem_range.1 hj)]; simp
  have e2 : (List.range k).filter (fun j => (withoutN s (k : Int)).testBit j) = [] := List.filter_eq_nil_iff.2 fun j hj => by rw [hw, hlow j (List.mem_range.1 hj)]; simp
  have e3 : ((List.range d).map (k + 1 + ·)).filter (fun j => (withoutN s (k : Int)).testBit j) = ((List.range d).map (k + 1 + ·)).filter (fun j => s.testBit j) := by
    refine List.filter_congr fun j hj => ?_
    obtain ⟨i, _, rfl⟩ := List.mem_map.1 hj
    rw [hw]
    have : ¬ k = k + 1 + i := by omega
    simp [this]
  have e4 : (withoutN s (k : Int)).testBit k = false := by rw [hw]; simp
  rw [e1, e2, e3, hin, e4]
  simp
theorem list_nil_iff {s : Nat} (hs : s < 18446744073709551616) : listN s = [] ↔ s = 0 := by
  constructor
  · intro h
    refine Decidable.byContradiction fun h0 => ?_
    rw [(list_ctz h0 hs).1] at h
    cases h
  · rintro rfl; exact list_zero
theorem list_len_le (s : Nat) : (listN s).length ≤ 64 := by
  have := List.length_filter_le (fun j => s.testBit j) (List.range 64)
  simpa [listN] using this
/-- The least one; -1: none. -/
def firstN (s : Nat) : Int := (listN s).headD (-1)

theorem first_any (s : Nat) (hs : s < 18446744073709551616) (w : World) (hT : TabOk w) : Calls Tryd.prog 16 #[.int .u64 s] w fun e w' => e = .returned (.int .i64 (firstN s)) ∧ w' = w := by
  by_cases h0 : s = 0
  · subst h0
    rw [show firstN 0 = -1 by unfold firstN; rw [list_zero]; rfl]
    go_enter Tryd.func16, Tryd.ntmps16
    go_wp2
    go_ret
    exact ⟨rfl, rfl⟩
  · have H := Lib.hid (tz_any s h0 hs w hT)
    rw [show firstN s = (Lib.ctz 64 s : Int) by unfold firstN; rw [(list_ctz h0 hs).1]; rfl]
    obtain ⟨k, hk⟩ : ∃ k, Lib.ctz 64 s = k := ⟨_, rfl⟩
    rw [hk] at H ⊢
    have h1 : ((s : Int) == 0) = false := by simp; omega
    clear hk hT h0
    go_enter Tryd.func16, Tryd.ntmps16
    go_wp2_with fail
    with_reducible refine H.out.mono ?_
    rintro e w1 ⟨rfl, rfl⟩
    go_wp2
    go_ret
    exact ⟨rfl, rfl⟩

theorem all_any (s : Nat) (w : World) : Calls Tryd.prog 8 #[.int .u64 s] w fun e w' =>
    e = .returned (.func (.func 19) #[] #[.pointer (some ⟨w.heap.size, 0, none⟩)]) ∧ w' = w.alloc (.cells #[.int .u64 s] 22) := by
  go_enter Tryd.func8, Tryd.ntmps8
  go_wp2
  go_ret
  exact ⟨rfl, rfl⟩

abbrev encI (x : Int) : Array Value := #[.int .i64 x]
set_option maxRecDepth 100000 in
set_option maxHeartbeats 1600000 in
/-- **THE LOOP OVER A SET**: its numbers, rising; or the first ones of them. -/
theorem all1_seq {n : Nat} (hn : 1 ≤ n) {w : World} {B s : Nat} (h : w.heap[B]? = some (.cells #[.int .u64 s] 22 (0, 0))) (hs : s < 18446744073709551616) (hT : TabOk w) :
    TurnSeq Fence.wide n Tryd.prog 19 #[.pointer (some ⟨B, 0, none⟩)] encI [] [0] (fun xs => xs <+: listN s) (fun xs _ => xs = listN s) (fun xs _ => xs <+: listN s) w := by
  intro l J Jx W hW hJ hY hj0
  have b0 := cell1 (hW.same h (by simp))
  have HJ := Lib.hid hJ
  have HY := Lib.hid hY
  have HT0 := Lib.hid (hT.turned hW (by simp))
  clear hJ hY h hT
  refine callsIn_of_wp Tryd.func19 rfl trivial ?_ rfl
  simp only [Tryd.ntmps19, List.size_toArray, List.length_cons, List.length_nil, Nat.reduceAdd, Nat.reduceSub, Array.replicate_succ, Array.replicate_zero, List.push_toArray, List.append_toArray, List.nil_append, List.cons_append]
  gi_wp2
  gi_loopw [3] (fun i wr => ∃ (r : Nat) (pre : List Int), i = .int .u64 r ∧ Hid (r < 18446744073709551616) ∧ Hid (listN s = pre ++ listN r) ∧ Hid (J pre wr) ∧ Hid (TabOk wr)) (fun i _ => (listN (intOf i).toNat).length)
  case atStart => exact ⟨s, [], rfl, Lib.hid hs, Lib.hid rfl, Lib.hid hj0, HT0⟩
  case round =>
    obtain ⟨r, pre, rfl, HR, HL, HJ0, HT⟩ := hrel
    by_cases h0 : r = 0
    · subst h0
      have hl := HL.out
      rw [list_zero, List.append_nil] at hl
      have HLL := Lib.hid hl
      clear hl
      gi_wp2
      go_end0
      have hj := HJ0.out
      rw [← HLL.out] at hj
      exact ⟨⟨_, rfl⟩, .inl (by first | exact hj | exact ⟨_, rfl, hj⟩)⟩
    · obtain ⟨hcons, hk⟩ := list_ctz h0 HR.out
      have HF := Lib.hid (first_any r HR.out wr HT.out)
      rw [show firstN r = (Lib.ctz 64 r : Int) by unfold firstN; rw [hcons]; rfl] at HF
      have HW := Lib.hid (fun W => without_any r (Lib.ctz 64 r : Int) W HR.out ⟨by omega, by omega⟩)
      have hlt := withoutN_lt (i := (Lib.ctz 64 r : Int)) HR.out
      obtain ⟨k, hkk⟩ : ∃ k, Lib.ctz 64 r = k := ⟨_, rfl⟩
      rw [hkk] at HF HW hlt hcons hk
      obtain ⟨q, hq⟩ : ∃ q, withoutN r (k : Int) = q := ⟨_, rfl⟩
      rw [hq] at HW hlt hcons
      have hpre : listN s = (pre ++ [(k : Int)]) ++ listN q := by rw [HL.out, hcons]; simp
      have HP := Lib.hid hpre
      have HQ := Lib.hid hlt
      have HLen := Lib.hid (show (listN q).length < (listN r).length by rw [hcons]; simp)
      have h1 : ((r : Int) == 0) = false := by simp; omega
      have h2 : ((r : Int) != 0) = true := by simp; omega
      clear hkk hq hpre hlt hcons hk h0
      gi_wp2_with fail
      refine ⟨trivial, ?_⟩
      with_reducible refine (callsIn_wide.2 HF.out).mono ?_
      rintro e V ⟨rfl, rfl⟩
      obtain ⟨fn, tmps, assign, body, hy, hR⟩ := HY.out pre (k : Int) _ HJ0.out (by rw [HP.out]; exact List.prefix_append _ _)
      gi_wp2_with fail
      refine hR.mono ?_
      rintro e V4 ⟨hsm, hz, ⟨rfl, hj4⟩ | ⟨rfl, hx4⟩⟩
      · have HJ4 := Lib.hid hj4
        have HT4 := Lib.hid (HT.out.same (hsm _ (by simp)))
        clear hsm hz hj4
        gi_wp2_with fail
        refine ⟨trivial, ?_⟩
        with_reducible refine (callsIn_wide.2 (HW.out _)).mono ?_
        rintro e V5 ⟨rfl, n5, rfl⟩
        gi_wp2
        go_roundw
        case rel => exact ⟨q, _, rfl, HQ, HP, Lib.hid (HJ.out _ _ _ HJ4.out ((Turned.refl [] V4).drewN n5)), HT4⟩
        case measure => simpa [intOf] using HLen.out
      · have HX4 := Lib.hid hx4
        clear hsm hz hx4
        gi_wp2
        refine bodyPost_ret (results_none rfl _ _ _) rfl ?_
        exact ⟨⟨_, rfl⟩, .inr ⟨_, by rw [HP.out]; exact List.prefix_append _ _, HX4.out⟩⟩
end Go.Proofs.YtppdjdlnaohkiaaDoor
