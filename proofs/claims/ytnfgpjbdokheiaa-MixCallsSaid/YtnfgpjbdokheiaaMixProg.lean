/-
  The program's Order: rising numbers, then the changes of places.
-/
import Derived.Test.YtnfgpjbdokheiaaMixLaw
import Derived.Laws.OwnMore
import Derived.RegionTactic
import Derived.ChangeAlike
namespace Go.Proofs.Ytnfgpjbdokheiaa
open Go.RowKit

theorem run_max_one {P : Program} {w : World} (ts : Array TypeId) (t : TypeId) (x y : Int) : (Builtin.max_ ts t #[.int .i64 x, .int .i64 y]).run P w = .ok (.int .i64 (max x y)) w := by
  rw [run_max_int2]
  congr 2
  split <;> omega
theorem run_min_one {P : Program} {w : World} (ts : Array TypeId) (t : TypeId) (x y : Int) : (Builtin.min_ ts t #[.int .i64 x, .int .i64 y]).run P w = .ok (.int .i64 (min x y)) w := by
  rw [run_min_int2]
  congr 2
  split <;> omega
attribute [local go_sem ↓] run_max_one run_min_one

/-- A row of zeros, whose first k are rising. -/
def upN (m k : Nat) : List Int := (List.range m).map fun j : Nat => if j < k then (j : Int) else 0
theorem upN_len (m k : Nat) : (upN m k).length = m := by simp [upN]
theorem upN_full (m : Nat) : upN m m = (List.range m).map fun j : Nat => (j : Int) := by
  unfold upN
  refine List.map_congr_left fun j hj => ?_
  rw [if_pos (by simpa using hj)]
theorem upN_next (m k : Nat) : (upN m k).set k (k : Int) = upN m (k + 1) := by
  refine List.ext_getElem (by simp [upN]) fun j h1 h2 => ?_
  simp [upN] at h1 h2 ⊢
  rw [List.getElem_set]
  by_cases e : k = j
  · subst e; simp
  · rw [if_neg e]
    simp
    by_cases c : j < k
    · rw [if_pos c, if_pos (by omega)]
    · rw [if_neg c, if_neg (by omega)]
theorem made_ints (m : Nat) : (madeCells #[Value.int .i64 0] m).toList = intsOf (upN m 0) := by
  rw [toList_madeCells_one]
  refine List.ext_getElem (by simp [upN]) fun j h1 h2 => ?_
  simp [upN]
theorem row_stored {w : World} {base g n cap : Nat} {e : TypeId} {L : List Int} (h : w.ownsRow base e 1 (.slice (some ⟨g, 0, none⟩) n cap) n (intsOf L)) (i : Nat) (x : Int) :
    (w.setCell ⟨g, i, none⟩ (.int .i64 x)).ownsRow base e 1 (.slice (some ⟨g, 0, none⟩) n cap) n (intsOf (L.set i x)) := by
  have h1 := (h.stored i (.int .i64 x)).1
  rw [show (intsOf L).set i (.int .i64 x) = intsOf (L.set i x) by simp [intsOf, List.map_set]] at h1
  exact h1

set_option maxRecDepth 100000 in
set_option maxHeartbeats 800000 in
theorem rising_any (m : Nat) (hm : m ≤ 64) (w : World) :
    Calls Try.prog 13 #[.int .i64 (m : Int)] w fun e w' => e = .returned (.slice (some ⟨w.heap.size, 0, none⟩) m m) ∧ w'.ownsRow w.heap.size 3 1 (.slice (some ⟨w.heap.size, 0, none⟩) m m) m (intsOf ((List.range m).map fun j : Nat => (j : Int))) ∧ Below w.heap.size w w' := by
  obtain ⟨i0, hi0, hz0, hz1, hz2⟩ := info_parts int_info
  have HF := Lib.hid (upN_full m)
  go_enter Try.func13, Try.ntmps13
  go_wp2_with (at_make; refine wpList_make_full _ rfl _ _ 26 rfl w.heap.size 3 i0 (.int .i64 0) 1 Try.underlying26 hi0 hz0 hz1 .i64 .i64 _ _ m rfl rfl rfl rfl ?c1 ?c2 ?c3 ?_)
  case c1 => rw [hz2]; omega
  case c2 => unfold maxLen; omega
  case c3 => omega
  intro w1 h1 g1
  rw [made_ints] at h1
  have hB0 : Below w.heap.size w w1 := (Below.refl _ w).grown g1 (Nat.le_refl _) (fun _ h => by simp at h)
  clear g1
  go_wp2
  go_loopw [9] (fun i wr => ∃ k : Nat, k ≤ m ∧ i = .int .i64 k ∧ wr.ownsRow w.heap.size 3 1 (.slice (some ⟨w.heap.size, 0, none⟩) m m) m (intsOf (upN m k)) ∧ Below w.heap.size w wr) (fun i _ => m - (intOf i).toNat)
  case atStart => exact ⟨0, Nat.zero_le _, rfl, h1, hB0⟩
  case round =>
    obtain ⟨k, hk, rfl, hown, hbel⟩ := hrel
    by_cases hlt : k < m
    · have q1 : (k : Int) < m := by omega
      have q2 : (0 : Int) ≤ k := by omega
      have l1 := upN_len m k
      have f1 := hown.frozenAt k
      have s1 : wr.cell? ⟨w.heap.size, k, none⟩ = some (.int .i64 ((upN m k).getD k 0)) := by rw [hown.cellAt _ (by omega)]; exact ints_get (by omega)
      have HR := Lib.hid (row_stored hown k (k : Int))
      rw [upN_next] at HR
      have HB2 := Lib.hid (hbel.setCell (p := ⟨w.heap.size, k, none⟩) (Nat.le_refl _) (.int .i64 (k : Int)))
      clear hown hbel l1 h1 hB0
      go_wp2
      go_roundw
      case rel => exact ⟨k + 1, by omega, by go_num, HR.out, HB2.out⟩
      case measure => simp [intOf]; omega
    · have hkm : k = m := by omega
      subst hkm
      rw [HF.out] at hown
      have HO := Lib.hid hown
      have HL := Lib.hid hbel
      clear hown hbel h1 hB0
      go_wp2
      go_ret
      exact ⟨rfl, HO.out, HL.out⟩

set_option maxRecDepth 100000 in
set_option maxHeartbeats 1600000 in
theorem ord_any (seed : Nat) (n : Int) (w : World) :
    Calls Try.prog 10 #[.int .u64 seed, .int .i64 n] w fun e w' => ∃ v, e = .returned v ∧ w'.ownsRow w.heap.size 3 1 v (min (max n 0) 64).toNat (intsOf (orderOf seed n)) ∧ Below w.heap.size w w' := by
  obtain ⟨k, hk⟩ : ∃ k, (min (max n 0) 64).toNat = k := ⟨_, rfl⟩
  have hfin : orderOf seed n = ordL seed k (k - 1) := by unfold orderOf; rw [hk]
  rw [hk, hfin]
  have hmin : min (max n 0) 64 = (k : Int) := by omega
  have k64 : k ≤ 64 := by omega
  have HRi := Lib.hid (fun W => rising_any k k64 W)
  have HB := Lib.hid (fun (W : World) (key q : Int) (hq : q ≤ 100) => buc_any key q W (by omega))
  clear hfin hk
  go_enter Try.func10, Try.ntmps10
  go_wp2_with fail
  refine (HRi.out _).mono ?_
  rintro e w1 ⟨rfl, h1, b1⟩
  have HO1 := Lib.hid h1
  have HL1 := Lib.hid b1
  clear h1 b1 hmin
  go_wp2
  go_loopw [6] (fun i wr => ∃ d : Nat, i = .int .i64 ((k : Int) - 1 - d) ∧ d ≤ k - 1 ∧ wr.ownsRow w.heap.size 3 1 (.slice (some ⟨w.heap.size, 0, none⟩) k k) k (intsOf (ordL seed k d)) ∧ Below w.heap.size w wr) (fun i _ => (intOf i).toNat)
  case atStart => exact ⟨0, by go_num, by omega, HO1.out, HL1.out⟩
  case round =>
    obtain ⟨d, rfl, hd, hown, hbel⟩ := hrel
    have HO2 := Lib.hid hown
    have HL2 := Lib.hid hbel
    by_cases hp : d < k - 1
    · obtain ⟨i', hi'⟩ : ∃ i', k - 1 - d = i' := ⟨_, rfl⟩
      have ei : (k : Int) - 1 - d = (i' : Int) := by omega
      rw [ei]
      obtain ⟨q, hq⟩ : ∃ q, ordK seed i' = q := ⟨_, rfl⟩
      have hq0 : q ≤ i' := by rw [← hq]; exact ordK_lt seed i' (by omega)
      have hb0 := (bucI_range ((seed + i' : Nat) : Int) ((i' : Int) + 1)).1
      have hqb : bucI ((seed + i' : Nat) : Int) ((i' : Int) + 1) = (q : Int) := by rw [← hq]; unfold ordK; omega
      have HK := Lib.hid (fun (W : World) (key : Int) (hkey : key % 18446744073709551616 = ((seed + i' : Nat) : Int) % 18446744073709551616) => (bucI_mod key _ ((i' : Int) + 1) hkey).trans hqb ▸ HB.out W key ((i' : Int) + 1) (by omega))
      have hlen := ordL_len seed k d
      have hg : w.heap.size ≤ w.heap.size := Nat.le_refl _
      have s1 : wr.cell? ⟨w.heap.size, i', none⟩ = some (.int .i64 ((ordL seed k d).getD i' 0)) := by rw [hown.cellAt _ (by omega)]; exact ints_get (by omega)
      have s2 : wr.cell? ⟨w.heap.size, q, none⟩ = some (.int .i64 ((ordL seed k d).getD q 0)) := by rw [hown.cellAt _ (by omega)]; exact ints_get (by omega)
      have f1 := hown.frozenAt i'
      have f2 := hown.frozenAt q
      have R := fun m => row_swapped hown i' q m
      have hnext : ordL seed k (d + 1) = swp (ordL seed k d) i' q := by rw [ordL, hi', hq]
      obtain ⟨xi, hxi⟩ : ∃ x, (ordL seed k d).getD i' 0 = x := ⟨_, rfl⟩
      obtain ⟨xq, hxq⟩ : ∃ x, (ordL seed k d).getD q 0 = x := ⟨_, rfl⟩
      rw [hxi] at s1 R
      rw [hxq] at s2 R
      rw [← hnext] at R
      have hB2 := fun m => ((below_drewN hbel m).setCell (p := ⟨w.heap.size, i', none⟩) hg (.int .i64 xq)).setCell (p := ⟨w.heap.size, q, none⟩) hg (.int .i64 xi)
      have HR := Lib.hid R
      have HB2 := Lib.hid hB2
      have j0 : (0 : Int) < i' := by omega
      have j1 : (0 : Int) ≤ i' := by omega
      have j2 : (i' : Int) < k := by omega
      have j3 : (0 : Int) ≤ q := by omega
      have j4 : (q : Int) < k := by omega
      have hdk : (k : Int) - 1 - ((d + 1 : Nat) : Int) = (i' : Int) - 1 := by omega
      have HDK := Lib.hid hdk
      clear hown hbel R hB2 hnext hxi hxq hlen hqb hb0 hq hi' ei hdk
      by_cases e : q = i'
      · subst e
        have hxx : xq = xi := by rw [s1] at s2; simpa using s2.symm
        subst hxx
        clear s2 f2 j3 j4
        go_wp2_with fail
        refine (HK.out _ _ (key_left _ _)).mono ?_
        rintro e w1 ⟨rfl, rfl⟩
        go_wp2_with fail
        go_region
        all_goals
          go_wp2
          go_roundw
          case rel => exact ⟨d + 1, by rw [HDK.out], by omega, HR.out _, HB2.out _⟩
          case measure => simp [intOf]; omega
      · have e' : ¬ i' = q := fun h => e h.symm
        go_wp2_with fail
        refine (HK.out _ _ (key_left _ _)).mono ?_
        rintro e w1 ⟨rfl, rfl⟩
        go_wp2_with fail
        go_region
        all_goals
          go_wp2
          go_roundw
          case rel => exact ⟨d + 1, by rw [HDK.out], by omega, HR.out _, HB2.out _⟩
          case measure => simp [intOf]; omega
    · have hdk : d = k - 1 := by omega
      have j0 : ¬ (0 : Int) < (k : Int) - 1 - d := by omega
      have hfin := hown
      rw [hdk] at hfin
      have HF := Lib.hid hfin
      clear hown hbel hfin hdk
      go_wp2
      go_ret
      exact ⟨_, rfl, HF.out, HL2.out⟩

theorem ord_said : OrdSaid := fun seed n w _ => ord_any seed n w
end Go.Proofs.Ytnfgpjbdokheiaa
