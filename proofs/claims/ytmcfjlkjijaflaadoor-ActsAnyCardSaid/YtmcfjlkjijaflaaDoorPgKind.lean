/-
  The program's kindOf.
-/
import Derived.Test.YtmcfjlkjijaflaaDoorRdTake
namespace Go.Proofs.YtmcfjlkjijaflaaDoor
open Go.RowKit

def kindQ (x : Wd) : Nat := if x.1 = 1 ∧ x.2.2.1 = 0 ∧ x.2.2.2 = 0 then kindT x.2.1 11 else 0
theorem kindT_none {t : List By} : ∀ n : Nat, (∀ j : Nat, 1 ≤ j → j ≤ n → t ≠ nameR (j : Int)) → kindT t n = 0
  | 0, _ => rfl
  | n + 1, h => by
    rw [kindT, if_neg (h (n + 1) (by omega) (Nat.le_refl _))]
    exact kindT_none n (fun j h1 h2 => h j h1 (by omega))
theorem kindQ_hit {x : Wd} {n : Nat} (h1 : 1 ≤ n) (h2 : n ≤ 11) (hx : x = (1, nameR (n : Int), 0, 0)) : kindQ x = n := by
  subst hx
  unfold kindQ
  rw [if_pos ⟨rfl, rfl, rfl⟩]
  have h := (kind_name (names_all (k := n) (by omega) h2)).1
  simp only at h ⊢
  omega
theorem kindQ_miss {x : Wd} (h : ∀ j : Nat, 1 ≤ j → j < 12 → x ≠ (1, nameR (j : Int), 0, 0)) : kindQ x = 0 := by
  unfold kindQ
  split
  · next hc =>
    refine kindT_none 11 (fun j h1 h2 e => h j h1 (by omega) ?_)
    obtain ⟨a, b, c, d⟩ := x
    simp only at hc e ⊢
    obtain ⟨rfl, rfl, rfl⟩ := hc
    rw [e]
  · rfl
theorem kindQ_le (x : Wd) : kindQ x ≤ 11 := by
  unfold kindQ
  split
  · have : ∀ (t : List By) (n : Nat), kindT t n ≤ n := fun t n => by
      induction n with
      | zero => exact Nat.le_refl _
      | succ n ih => rw [kindT]; split <;> omega
    exact this _ _
  · omega
set_option maxRecDepth 100000 in
set_option maxHeartbeats 3200000 in
theorem kindof_any (x : Wd) (w : World) :
    Calls Tryd.prog 87 #[wdV x] w fun e w' => e = .returned (.int .i64 (kindQ x : Nat)) ∧ Below w.heap.size w w' := by
  have HHIT := Lib.hid (fun (n : Nat) (h1 : 1 ≤ n) (h2 : n ≤ 11) (hx : x = (1, nameR (n : Int), 0, 0)) => kindQ_hit h1 h2 hx)
  have HMISS := Lib.hid (fun h => kindQ_miss (x := x) h)
  have HNM := Lib.hid (fun k W => pnm_any k W)
  have HW := Lib.hid (fun s W => pname_any s W)
  have HQ := Lib.hid (fun (n : Nat) W => eq_words x (1, nameR (n : Int), 0, 0) W)
  obtain ⟨q, hq⟩ : ∃ q, kindQ x = q := ⟨_, rfl⟩
  rw [hq] at HHIT HMISS ⊢
  clear hq
  unfold wdV at HQ ⊢
  simp only at HQ
  have HX : Hid (∃ tx : ByteArray, ⟨x.2.1.toArray⟩ = tx) := ⟨_, rfl⟩
  obtain ⟨tx, htx⟩ := HX.out
  simp only [htx] at HQ ⊢
  obtain ⟨x0, hx0⟩ : ∃ x0, x.1 = x0 := ⟨_, rfl⟩
  obtain ⟨x2, hx2⟩ : ∃ x0, x.2.2.1 = x0 := ⟨_, rfl⟩
  obtain ⟨x3, hx3⟩ : ∃ x0, x.2.2.2 = x0 := ⟨_, rfl⟩
  simp only [hx0, hx2, hx3] at HQ ⊢
  clear hx0 hx2 hx3 htx HX
  go_enter Tryd.func87, Tryd.ntmps87
  go_wp2_with fail
  go_loopw [3] (fun k' wr => ∃ k : Nat, k' = .int .i64 k ∧ 1 ≤ k ∧ k ≤ 12 ∧ Hid (wr.heap[w.heap.size]? = some (.cells #[.int .i64 x0, .string tx, .int .i64 x2, .int .i64 x3] 74 (0, 0)) ∧ Below w.heap.size w wr) ∧ Hid (∀ j : Nat, 1 ≤ j → j < k → x ≠ (1, nameR (j : Int), 0, 0))) (fun k' _ => 12 - (intOf k').toNat)
  case atStart => exact ⟨1, rfl, by omega, by omega, ⟨heap_alloc_new w _, (Below.refl _ w).alloc (Nat.le_refl _) _⟩, fun j h1 h2 => by omega⟩
  case round =>
    obtain ⟨k, rfl, hk1, hk12, HB, HO⟩ := hrel
    by_cases hk : k ≤ 11
    · have hnm := fun W => HNM.out (k : Int) W
      obtain ⟨tn, htn⟩ : ∃ tn : ByteArray, ⟨(nameR (k : Int)).toArray⟩ = tn := ⟨_, rfl⟩
      have hqk := fun W => HQ.out k W
      simp only [htn] at hnm hqk
      have HNK := Lib.hid hnm
      have HWK := Lib.hid (fun W => HW.out tn W)
      have HS : Hid (∀ V, Below wr.heap.size wr V → V.cell? ⟨w.heap.size, 0, none⟩ = some (.int .i64 x0) ∧ V.cell? ⟨w.heap.size, 1, none⟩ = some (.string tx) ∧ V.cell? ⟨w.heap.size, 2, none⟩ = some (.int .i64 x2) ∧ V.cell? ⟨w.heap.size, 3, none⟩ = some (.int .i64 x3)) :=
        Lib.hid fun V hV => word_cells ((hV.block _ (lt_of_block HB.out.1)).trans HB.out.1)
      have HB0 := Lib.hid ((Below.refl wr.heap.size wr).drew)
      have s0 := HS.out _ HB0.out
      have hkw : IntKind.i64.wrap ((k : Int) + 1) = (k : Int) + 1 := IntWalk.i64_in _ (by omega)
      cases hd : decide (x = ((1, nameR (k : Int), 0, 0) : Wd)) with
      | true =>
        rw [hd] at hqk
        have HE := Lib.hid (HHIT.out k hk1 hk (of_decide_eq_true hd))
        clear hnm hd htn
        go_wp2_with fail
        go_region_held3 (fun V => V.cell? ⟨w.heap.size, 0, none⟩ = some (.int .i64 x0) ∧ V.cell? ⟨w.heap.size, 1, none⟩ = some (.string tx) ∧ V.cell? ⟨w.heap.size, 2, none⟩ = some (.int .i64 x2) ∧ V.cell? ⟨w.heap.size, 3, none⟩ = some (.int .i64 x3))
          (first | exact s0 | exact s1 | exact s2)
          (first
            | (go_at_call 14
               with_reducible refine (HNK.out _).mono ?_
               rintro r V1 ⟨rfl, hb⟩
               have HV1 := Lib.hid (HB0.out.trans (hb.mono HB0.out.size))
               have s1 := HS.out _ HV1.out
               clear hb)
            | (go_at_call 38
               with_reducible refine (HWK.out _).mono ?_
               rintro r V2 ⟨rfl, hb⟩
               have HV2 := Lib.hid (HV1.out.trans (hb.mono HV1.out.size))
               have s2 := HS.out _ HV2.out
               clear hb))
        clear s0 s1 s2
        go_wp2
        go_ret
        rw [HE.out]
        exact ⟨rfl, HB.out.2.trans (HV2.out.mono HB.out.2.size)⟩
      | false =>
        rw [hd] at hqk
        have hne := of_decide_eq_false hd
        have HO2 : Hid (∀ j : Nat, 1 ≤ j → j < k + 1 → x ≠ (1, nameR (j : Int), 0, 0)) := Lib.hid (fun j h1 h2 => by
          rcases Nat.lt_or_ge j k with h | h
          · exact HO.out j h1 h
          · have : j = k := by omega
            subst this
            exact hne)
        clear hnm hd htn hne
        go_wp2_with fail
        go_region_held3 (fun V => V.cell? ⟨w.heap.size, 0, none⟩ = some (.int .i64 x0) ∧ V.cell? ⟨w.heap.size, 1, none⟩ = some (.string tx) ∧ V.cell? ⟨w.heap.size, 2, none⟩ = some (.int .i64 x2) ∧ V.cell? ⟨w.heap.size, 3, none⟩ = some (.int .i64 x3))
          (first | exact s0 | exact s1 | exact s2)
          (first
            | (go_at_call 14
               with_reducible refine (HNK.out _).mono ?_
               rintro r V1 ⟨rfl, hb⟩
               have HV1 := Lib.hid (HB0.out.trans (hb.mono HB0.out.size))
               have s1 := HS.out _ HV1.out
               clear hb)
            | (go_at_call 38
               with_reducible refine (HWK.out _).mono ?_
               rintro r V2 ⟨rfl, hb⟩
               have HV2 := Lib.hid (HV1.out.trans (hb.mono HV1.out.size))
               have s2 := HS.out _ HV2.out
               clear hb))
        clear s0 s1 s2
        go_wp2
        go_roundw
        case rel => exact ⟨k + 1, by go_num, by omega, by omega, ⟨(HV2.out.block _ (lt_of_block HB.out.1)).trans HB.out.1, HB.out.2.trans (HV2.out.mono HB.out.2.size)⟩, HO2⟩
        case measure => simp [intOf]; omega
    · have hk2 : k = 12 := by omega
      have HE := Lib.hid (HMISS.out (fun j h1 h2 => HO.out j h1 (by omega)))
      subst hk2
      go_wp2
      go_ret
      rw [HE.out]
      exact ⟨rfl, HB.out.2⟩
end Go.Proofs.YtmcfjlkjijaflaaDoor
