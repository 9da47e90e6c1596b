/-
  The document's sets: List.
-/
import Derived.Test.YtppdjdlnaohkiaaDoorIdRef
import Derived.Test.YtppdjdlnaohkiaaDoorArOwn
import Derived.OwnWalk
import Derived.Laws.AppendOwn
import Derived.LoopTactic
namespace Go.Proofs.YtppdjdlnaohkiaaDoor
open Go.RowKit

abbrev intsOf (L : List Int) : List Value := L.map (Value.int .i64)
/-- What is in it of the first k. -/
def listTo (s k : Nat) : List Int := ((List.range k).filter fun j => s.testBit j).map fun j : Nat => (j : Int)
theorem listTo_all (s : Nat) : listTo s 64 = listN s := rfl
theorem listTo_in {s k : Nat} (h : s.testBit k = true) : listTo s (k + 1) = listTo s k ++ [(k : Int)] := by
  simp [listTo, List.range_succ, List.filter_append, h]
theorem listTo_out {s k : Nat} (h : s.testBit k = false) : listTo s (k + 1) = listTo s k := by
  simp [listTo, List.range_succ, List.filter_append, h]
theorem listTo_len (s k : Nat) : (listTo s k).length ≤ k := by
  have := List.length_filter_le (fun j => s.testBit j) (List.range k)
  simpa [listTo] using this
theorem has_nat {s k : Nat} (h : k < 64) : hasN s (k : Int) = s.testBit k := by
  simp [hasN, okI]
  intro _
  omega
theorem int_info : (Tryd.prog.info? 3).map (fun i => (i.zero, i.size, i.bytes)) = some (some (.int .i64 0), 1, 8) := by kernel_rfl

theorem app_below {n₀ : Nat} {w wr w2 : World} {o : Obj} {base : Nat} {e : TypeId} {size : Nat} {v : Value} {k : Nat} {xs : List Value} (hb : Below n₀ w wr) (hn : n₀ ≤ w.heap.size) (hbase : n₀ ≤ base) (hown : wr.ownsRow base e size v k xs) (hg : (wr.alloc o).grownBy w2 v.ownBlock) : Below n₀ w w2 := by
  have h1 := hb.alloc (Nat.le_trans hn hb.size) o
  refine h1.grown hg (Nat.le_trans hn h1.size) (fun j hj => ?_)
  have := (hown.lt j hj).1
  omega

theorem one_cell (W : World) (v : Value) (t : TypeId) : (W.alloc (Obj.cells #[v] t)).cell? ⟨W.heap.size, 0, none⟩ = some v := by simp
theorem own_drewN {w : World} {base : Nat} {e : TypeId} {size : Nat} {v : Value} {k : Nat} {xs : List Value} (h : w.ownsRow base e size v k xs) (n : Nat) : (w.drewN n).ownsRow base e size v k xs := h

set_option maxRecDepth 100000 in
set_option maxHeartbeats 1600000 in
theorem rlist_any (s : Nat) (w : World) :
    Calls Tryd.prog 7 #[.int .u64 s] w fun e w' => ∃ v, e = .returned v ∧ w'.ownsRow w.heap.size 3 1 v (listN s).length (intsOf (listN s)) ∧ Below w.heap.size w w' := by
  obtain ⟨i0, hi0, hz0, hz1, hz2⟩ := info_parts int_info
  have HB := Lib.hid (fun (W : World) (k : Nat) => rhasS_any s (k : Int) W)
  rw [← listTo_all]
  go_enter Tryd.func7, Tryd.ntmps7
  go_wp2
  go_loopw [3, 4] (fun o i wr => ∃ k : Nat, k ≤ 64 ∧ i = .int .i64 k ∧ wr.ownsRow w.heap.size 3 1 o (listTo s k).length (intsOf (listTo s k)) ∧ Below w.heap.size w wr) (fun _ i _ => 64 - (intOf i).toNat)
  case atStart => exact ⟨0, Nat.zero_le _, rfl, World.ownsRow_nil _ _ _ _, Below.refl _ _⟩
  case round =>
    obtain ⟨k, hk, rfl, hown, hbel⟩ := hrel
    by_cases hlt : k < 64
    · have q2 : (k : Int) < 64 := by omega
      have HO := Lib.hid hown
      have HL := Lib.hid hbel
      clear hown hbel
      have HC := Lib.hid (fun W => has_nat (s := s) hlt ▸ HB.out W k)
      obtain ⟨t, ht⟩ : ∃ t, s.testBit k = t := ⟨_, rfl⟩
      rw [ht] at HC
      have hlen := listTo_len s k
      cases t with
      | true =>
        go_wp2_with fail
        with_reducible refine (HC.out _).mono ?_
        rintro e w1 ⟨rfl, n1, rfl⟩
        have HO1 := Lib.hid ((own_drewN HO.out n1))
        go_wp2_with (at_builtin; refine wpList_append_own _ rfl _ _ 24 rfl w.heap.size 3 i0 (.int .i64 0) 1 8 Tryd.underlying24 hi0 hz0 hz1 hz2 rfl (by decide) _ _ _ rfl (HO1.out.alloc _) ⟨wr.heap.size, 0, none⟩ 1 1 [.int .i64 (k : Int)] rfl rfl ?c1 ?c2 ?c3 ?c4 ?c5 ?_)
        case c1 =>
          intro j u hj
          match j, hj with
          | 0, hj => simp at hj; subst hj; exact one_cell (wr.drewN n1) _ _
        case c2 => intro u hu; simp at hu; subst hu; rfl
        case c3 => unfold maxLen; omega
        case c4 => omega
        case c5 => have := HL.out.size; simp; omega
        intro v' w2 hown2 hgrow _
        have hb2 := app_below (below_drewN HL.out n1) (Nat.le_refl _) (Nat.le_refl _) HO1.out hgrow
        have hown3 : w2.ownsRow w.heap.size 3 1 v' (listTo s (k + 1)).length (intsOf (listTo s (k + 1))) := by
          rw [listTo_in ht]
          simpa [intsOf] using hown2
        clear hown2 hgrow
        go_wp2
        go_roundw
        case rel => exact ⟨k + 1, by omega, by go_num, hown3, hb2⟩
        case measure => simp [intOf]; omega
      | false =>
        go_wp2_with fail
        with_reducible refine (HC.out _).mono ?_
        rintro e w1 ⟨rfl, n1, rfl⟩
        go_wp2
        go_roundw
        case rel => exact ⟨k + 1, by omega, by go_num, by rw [listTo_out ht]; exact HO.out, below_drewN HL.out n1⟩
        case measure => simp [intOf]; omega
    · have hkM : k = 64 := by omega
      subst hkM
      go_wp2
      go_ret
      exact ⟨_, rfl, hown, hbel⟩
end Go.Proofs.YtppdjdlnaohkiaaDoor
