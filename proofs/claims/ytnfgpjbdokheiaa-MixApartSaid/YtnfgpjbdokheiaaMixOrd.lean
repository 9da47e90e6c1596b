/-
  The document's mix: Order.
-/
import Derived.Test.YtnfgpjbdokheiaaMixRef
import Derived.Test.YtnfgpjbdokheiaaArOwn
import Derived.OwnWalk
import Derived.Laws.AppendOwn
import Derived.LoopTactic
namespace Go.Proofs.Ytnfgpjbdokheiaa
open Go.RowKit

/-- A key counts by what is left of it. -/
theorem bucI_mod (a b n : Int) (h : a % 18446744073709551616 = b % 18446744073709551616) : bucI a n = bucI b n := by unfold bucI; rw [h]
theorem ord_key (seed i : Nat) (n : Int) : bucI (IntKind.i64.wrap (IntKind.u64.wrap ((seed : Int) + IntKind.u64.wrap (i : Int)))) n = bucI ((seed + i : Nat) : Int) n := by
  refine bucI_mod _ _ _ ?_
  rw [IntKind.wrap_i64, IntKind.wrap_u64, IntKind.wrap_u64]
  omega
theorem key_left (a b : Nat) : wrap64 (IntKind.u64.wrap ((a : Int) + (b : Int))) % 18446744073709551616 = ((a + b : Nat) : Int) % 18446744073709551616 := by
  simp only [wrap64, IntKind.wrap_u64]
  omega
abbrev intsOf (L : List Int) : List Value := L.map (Value.int .i64)
theorem ints_get {L : List Int} {j : Nat} (hj : j < L.length) : (intsOf L)[j]? = some (.int .i64 (L.getD j 0)) := by simp [intsOf, hj]
theorem ints_swp (L : List Int) (i k : Nat) : ((intsOf L).set i (.int .i64 (L.getD k 0))).set k (.int .i64 (L.getD i 0)) = intsOf (swp L i k) := by
  simp [intsOf, swp, List.map_set]
theorem int_info : (Try.prog.info? 3).map (fun i => (i.zero, i.size, i.bytes)) = some (some (.int .i64 0), 1, 8) := by kernel_rfl

theorem app_below {n₀ : Nat} {w wr w2 : World} {o : Obj} {base : Nat} {e : TypeId} {size : Nat} {v : Value} {k : Nat} {xs : List Value} (hb : Below n₀ w wr) (hn : n₀ ≤ w.heap.size) (hbase : n₀ ≤ base) (hown : wr.ownsRow base e size v k xs) (hg : (wr.alloc o).grownBy w2 v.ownBlock) : Below n₀ w w2 := by
  have h1 := hb.alloc (Nat.le_trans hn hb.size) o
  refine h1.grown hg (Nat.le_trans hn h1.size) (fun j hj => ?_)
  have := (hown.lt j hj).1
  omega

/-- Two stores into the row. -/
theorem row_swapped {w : World} {base g n cap : Nat} {e : TypeId} {L : List Int} (h : w.ownsRow base e 1 (.slice (some ⟨g, 0, none⟩) n cap) n (intsOf L)) (i k : Nat) (q : Nat) :
    (((w.drewN q).setCell ⟨g, i, none⟩ (.int .i64 (L.getD k 0))).setCell ⟨g, k, none⟩ (.int .i64 (L.getD i 0))).ownsRow base e 1 (.slice (some ⟨g, 0, none⟩) n cap) n (intsOf (swp L i k)) := by
  have h0 : (w.drewN q).ownsRow base e 1 (.slice (some ⟨g, 0, none⟩) n cap) n (intsOf L) := h
  have h1 := (h0.stored i (.int .i64 (L.getD k 0))).1
  have h2 := (h1.stored k (.int .i64 (L.getD i 0))).1
  rw [ints_swp] at h2
  exact h2

set_option maxRecDepth 100000 in
set_option maxHeartbeats 1600000 in
theorem rord_any (seed : Nat) (n : Int) (w : World) :
    Calls Try.prog 11 #[.int .u64 seed, .int .i64 n] w fun e w' => ∃ v, e = .returned v ∧ w'.ownsRow w.heap.size 3 1 v (min (max n 0) 64).toNat (intsOf (orderOf seed n)) ∧ Below w.heap.size w w' := by
  obtain ⟨M, hM⟩ : ∃ M, (min (max n 0) 64).toNat = M := ⟨_, rfl⟩
  have hfin : orderOf seed n = ordL seed M (M - 1) := by unfold orderOf; rw [hM]
  rw [hM, hfin]
  have HM := Lib.hid hM
  clear hfin hM
  obtain ⟨i0, hi0, hz0, hz1, hz2⟩ := info_parts int_info
  have HB := Lib.hid (fun (W : World) (key q : Int) (hq : q ≤ 100) => rbuc_any key q W (by omega))
  go_enter Try.func11, Try.ntmps11
  go_wp2
  go_loopw [5, 6] (fun o i wr => ∃ k : Nat, k ≤ M ∧ i = .int .i64 k ∧ wr.ownsRow w.heap.size 3 1 o k (intsOf ((List.range k).map fun j : Nat => (j : Int))) ∧ Below w.heap.size w wr) (fun _ i _ => M - (intOf i).toNat)
  case atStart => exact ⟨0, Nat.zero_le _, rfl, World.ownsRow_nil _ _ _ _, Below.refl _ _⟩
  case round =>
    obtain ⟨k, hk, rfl, hown, hbel⟩ := hrel
    have hMk := HM.out
    by_cases hlt : k < M
    · have q1 : (k : Int) < n := by omega
      have q2 : (k : Int) < 64 := by omega
      clear hMk
      have HO := Lib.hid hown
      have HL := Lib.hid hbel
      go_wp2_with (at_builtin; refine wpList_append_own _ rfl _ _ 26 rfl w.heap.size 3 i0 (.int .i64 0) 1 8 Try.underlying26 hi0 hz0 hz1 hz2 rfl (by decide) _ _ _ rfl (HO.out.alloc _) ⟨wr.heap.size, 0, none⟩ 1 1 [.int .i64 (k : Int)] rfl rfl ?c1 ?c2 ?c3 ?c4 ?c5 ?_)
      case c1 =>
        intro j u hj
        match j, hj with
        | 0, hj => simp at hj; subst hj; simp [Addr.add]
      case c2 => intro u hu; simp at hu; subst hu; rfl
      case c3 => unfold maxLen; omega
      case c4 => omega
      case c5 => have := HL.out.size; simp; omega
      intro v' w2 hown2 hgrow _
      have hb2 := app_below HL.out (Nat.le_refl _) (Nat.le_refl _) HO.out hgrow
      have hown3 : w2.ownsRow w.heap.size 3 1 v' (k + 1) (intsOf ((List.range (k + 1)).map fun j : Nat => (j : Int))) := by
        simpa [List.range_succ, intsOf] using hown2
      clear hown hown2 hbel hgrow
      go_wp2
      go_roundw
      case rel => exact ⟨k + 1, by omega, by go_num, hown3, hb2⟩
      case measure => simp [intOf]; omega
    · have hkM : k = M := by omega
      subst hkM
      have HO := Lib.hid hown
      have HL := Lib.hid hbel
      obtain ⟨a, cap, rfl, _, _⟩ := ownsRow_shape hown
      clear hown hbel
      have k64 : k ≤ 64 := by omega
      obtain (⟨c1, c2⟩ | c1) : ((k : Int) < n ∧ ¬ (k : Int) < 64) ∨ ¬ (k : Int) < n := by
        by_cases c : (k : Int) < n
        · exact .inl ⟨c, by omega⟩
        · exact .inr c
      all_goals
        clear hMk
        go_wp2
        go_loopw [7] (fun i wr => ∃ d : Nat, i = .int .i64 ((k : Int) - 1 - d) ∧ d ≤ k - 1 ∧ wr.ownsRow w.heap.size 3 1 (.slice a k cap) k (intsOf (ordL seed k d)) ∧ Below w.heap.size w wr) (fun i _ => (intOf i).toNat)
        case atStart => exact ⟨0, by go_num, by omega, HO.out, HL.out⟩
        case round =>
          obtain ⟨d, rfl, hd, hown, hbel⟩ := hrel
          have HO2 := Lib.hid hown
          have HL2 := Lib.hid hbel
          by_cases hp : d < k - 1
          · obtain ⟨i', hi'⟩ : ∃ i', k - 1 - d = i' := ⟨_, rfl⟩
            have ei : (k : Int) - 1 - d = (i' : Int) := by omega
            rw [ei]
            obtain ⟨q, hq⟩ : ∃ q, ordK seed i' = q := ⟨_, rfl⟩
            have hq0 : q ≤ i' := by rw [← hq]; exact ordK_lt seed i' (by omega)
            have hb0 := (bucI_range ((seed + i' : Nat) : Int) ((i' : Int) + 1)).1
            have hqb : bucI ((seed + i' : Nat) : Int) ((i' : Int) + 1) = (q : Int) := by rw [← hq]; unfold ordK; omega
            have HK := Lib.hid (fun (W : World) (key : Int) (hkey : key % 18446744073709551616 = ((seed + i' : Nat) : Int) % 18446744073709551616) => (bucI_mod key _ ((i' : Int) + 1) hkey).trans hqb ▸ HB.out W key ((i' : Int) + 1) (by omega))
            have hlen := ordL_len seed k d
            obtain ⟨g, cap', hv, _, _⟩ := ownsRow_pos hown (by omega)
            simp only [Value.slice.injEq] at hv
            obtain ⟨rfl, _, rfl⟩ := hv
            have hg : w.heap.size ≤ g := (hown.lt g rfl).1
            have s1 : wr.cell? ⟨g, i', none⟩ = some (.int .i64 ((ordL seed k d).getD i' 0)) := by rw [hown.cellAt _ (by omega)]; exact ints_get (by omega)
            have s2 : wr.cell? ⟨g, q, none⟩ = some (.int .i64 ((ordL seed k d).getD q 0)) := by rw [hown.cellAt _ (by omega)]; exact ints_get (by omega)
            have f1 := hown.frozenAt i'
            have f2 := hown.frozenAt q
            have R := fun m => row_swapped hown i' q m
            have hnext : ordL seed k (d + 1) = swp (ordL seed k d) i' q := by rw [ordL, hi', hq]
            obtain ⟨xi, hxi⟩ : ∃ x, (ordL seed k d).getD i' 0 = x := ⟨_, rfl⟩
            obtain ⟨xq, hxq⟩ : ∃ x, (ordL seed k d).getD q 0 = x := ⟨_, rfl⟩
            rw [hxi] at s1 R
            rw [hxq] at s2 R
            rw [← hnext] at R
            have hB2 := fun m => ((below_drewN hbel m).setCell (p := ⟨g, i', none⟩) hg (.int .i64 xq)).setCell (p := ⟨g, q, none⟩) hg (.int .i64 xi)
            have HR := Lib.hid R
            have HB2 := Lib.hid hB2
            have j0 : (0 : Int) < i' := by omega
            have j1 : (0 : Int) ≤ i' := by omega
            have j2 : (i' : Int) < k := by omega
            have j3 : (0 : Int) ≤ q := by omega
            have j4 : (q : Int) < k := by omega
            have hdk : (k : Int) - 1 - ((d + 1 : Nat) : Int) = (i' : Int) - 1 := by omega
            have HDK := Lib.hid hdk
            clear hown hbel R hB2 hnext hxi hxq hlen hqb hb0 hq hi' ei hdk
            by_cases e : q = i'
            · subst e
              have hxx : xq = xi := by rw [s1] at s2; simpa using s2.symm
              subst hxx
              clear s2 f2 j3 j4
              go_wp2_with fail
              refine (HK.out _ _ (key_left _ _)).mono ?_
              rintro e w1 ⟨rfl, m1, rfl⟩
              go_wp2
              go_roundw
              case rel => exact ⟨d + 1, by rw [HDK.out], by omega, HR.out _, HB2.out _⟩
              case measure => simp [intOf]; omega
            · have e' : ¬ i' = q := fun h => e h.symm
              go_wp2_with fail
              refine (HK.out _ _ (key_left _ _)).mono ?_
              rintro e w1 ⟨rfl, m1, rfl⟩
              go_wp2
              go_roundw
              case rel => exact ⟨d + 1, by rw [HDK.out], by omega, HR.out _, HB2.out _⟩
              case measure => simp [intOf]; omega
          · have hdk : d = k - 1 := by omega
            have j0 : ¬ (0 : Int) < (k : Int) - 1 - d := by omega
            have hfin := hown
            rw [hdk] at hfin
            have HF := Lib.hid hfin
            clear hown hbel hfin hdk
            go_wp2
            go_ret
            exact ⟨_, rfl, HF.out, HL2.out⟩
end Go.Proofs.Ytnfgpjbdokheiaa
