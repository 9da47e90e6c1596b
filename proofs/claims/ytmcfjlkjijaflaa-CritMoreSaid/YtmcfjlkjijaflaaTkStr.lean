/-
  Texts in memory; what a call leaves as it was.
-/
import Derived.Test.YtmcfjlkjijaflaaChecked
import Derived.Test.YtmcfjlkjijaflaaArOwn
import Derived.Test.YtmcfjlkjijaflaaTkPlain
import Derived.Lib.Hide
import Derived.Lib.Strings
import Derived.Lib.ConvBytes
import Derived.Laws.IdiomStrings
import Derived.Sort.Grow
import Derived.WalkKit
import Derived.LoopTactic
import Derived.OwnWalk
import Derived.Laws.AppendOwn
import Derived.Laws.OwnMore
import Derived.Laws.ResultCell
import Derived.IntWalk
namespace Go.Proofs.Ytmcfjlkjijaflaa
open Go.RowKit

theorem geb (c : By) (k : Nat) : decide ((k : Int) ≤ (c.toNat : Int)) = decide (k ≤ c.toNat) := by rw [Bool.eq_iff_iff]; simp
theorem leb (c : By) (k : Nat) : decide ((c.toNat : Int) ≤ (k : Int)) = decide (c.toNat ≤ k) := by rw [Bool.eq_iff_iff]; simp
theorem eqb (c : By) (k : Nat) : (((c.toNat : Nat) : Int) == (k : Int)) = decide (c.toNat = k) := by rw [Bool.eq_iff_iff]; simp; omega
theorem neb (c : By) (k : Nat) : (((c.toNat : Nat) : Int) != (k : Int)) = !decide (c.toNat = k) := by rw [bne, eqb]
theorem ne3 (k : Int) : (k != 3) = !decide (k = 3) := by rw [Bool.eq_iff_iff]; simp
theorem byte_drop (s : ByteArray) (k : Nat) (h : k < s.size) : s.data.toList.drop k = s[k] :: s.data.toList.drop (k + 1) := by
  rw [List.drop_eq_getElem_cons (by rw [← Lib.size_eq]; exact h)]
  rfl
theorem drop_end (s : ByteArray) (k : Nat) (h : s.size ≤ k) : s.data.toList.drop k = [] := List.drop_eq_nil_of_le (by rw [← Lib.size_eq]; exact h)
theorem head_at (s : ByteArray) (h : 0 < s.size) : s.data.toList.headD 0 = s[0] := by
  have := byte_drop s 0 h
  rw [List.drop_zero] at this
  rw [this]
  rfl
theorem bl_from (s : ByteArray) (k : Nat) : (s.extract k s.size).data.toList = s.data.toList.drop k := by
  rw [Lib.extract_data]
  exact List.take_of_length_le (by rw [List.length_drop, ← Lib.size_eq]; omega)
theorem size_from (s : ByteArray) (k : Nat) : (s.extract k s.size).size = s.size - k := by
  rw [Lib.size_eq, bl_from, List.length_drop, ← Lib.size_eq]
theorem bl_to (s : ByteArray) (k : Nat) : (s.extract 0 k).data.toList = s.data.toList.take k := by
  rw [Lib.extract_data, List.drop_zero, Nat.sub_zero]
theorem size_to (s : ByteArray) (k : Nat) (h : k ≤ s.size) : (s.extract 0 k).size = k := by
  rw [Lib.size_eq, bl_to, List.length_take, ← Lib.size_eq]; omega
theorem mk_to (s : ByteArray) (k : Nat) : (⟨(s.data.toList.take k).toArray⟩ : ByteArray) = s.extract 0 k := by
  rw [← bl_to, Lib.mk_data]
theorem bcell {W w1 : World} (hb : Below W.heap.size W w1) : (∀ b o, b < W.heap.size → w1.cell? ⟨b, o, none⟩ = W.cell? ⟨b, o, none⟩) ∧ (∀ b o, b < W.heap.size → w1.frozen? ⟨b, o, none⟩ = W.frozen? ⟨b, o, none⟩) :=
  ⟨fun b o h => hb.cell (p := ⟨b, o, none⟩) h, fun b o h => hb.frozen (p := ⟨b, o, none⟩) h⟩
theorem row_below {w W : World} {base : Nat} {e : TypeId} {size : Nat} {v : Value} {n : Nat} {xs : List Value} (h : w.ownsRow base e size v n xs) (hb : Below w.heap.size w W) : W.ownsRow base e size v n xs :=
  ownsRow_same h fun k _ hk => hb.block k hk
theorem app_below {n₀ : Nat} {wr w1 w2 : World} {base : Nat} {e : TypeId} {size : Nat} {v : Value} {k : Nat} {xs : List Value} {w : World} (hb : Below n₀ w w1) (hn : n₀ ≤ w.heap.size) (hbase : n₀ ≤ base) (hown : wr.ownsRow base e size v k xs) (hg : w1.grownBy w2 v.ownBlock) : Below n₀ w w2 :=
  hb.grown hg (Nat.le_trans hn hb.size) (fun j hj => by
    have := (hown.lt j hj).1
    omega)
theorem below_drewN {B : Nat} {a b : World} (h : Below B a b) (n : Nat) : Below B a (b.drewN n) := ⟨h.os, h.tape, h.output, h.size, h.block⟩
theorem bytes_below (w : World) (e : TypeId) (s : ByteArray) : Below w.heap.size w (Lib.bytesWorld w e s) :=
  ⟨rfl, rfl, rfl, by rw [Lib.bytesWorld_size]; omega, fun k hk => Lib.bytesWorld_at_old w e s k hk⟩
theorem grow_below (w : World) (k : Nat) (os : Array Obj) : Below w.heap.size w (Go.Sort.grow (w.drewN k) os) := by
  refine ⟨rfl, rfl, rfl, ?_, fun j hj => ?_⟩
  · show w.heap.size ≤ (w.heap ++ os).size
    rw [Array.size_append]; omega
  · show (w.heap ++ os)[j]? = w.heap[j]?
    rw [Array.getElem?_append_left hj]
theorem one_cell (W : World) (v : Value) (t : TypeId) : (W.alloc (Obj.cells #[v] t)).cell? ⟨W.heap.size, 0, none⟩ = some v := by simp
theorem ba_add (a b : ByteArray) : (a ++ b).data.toList = a.data.toList ++ b.data.toList ∧ (a ++ b).size = a.size + b.size := by
  constructor
  · simp [ByteArray.data_append]
  · simp
theorem add_run (a b : ByteArray) (h : a.size + b.size ≤ 1000000) (W : World) : (Op.stringOp .add a b).run Try.prog W = .ok (.string (a ++ b)) W := run_string_add_sum W a b (by omega)
theorem str_add (x y : List By) (h : x.length + y.length ≤ 1000000) (W : World) : (Op.stringOp .add ⟨x.toArray⟩ ⟨y.toArray⟩).run Try.prog W = .ok (.string ⟨(x ++ y).toArray⟩) W := by
  rw [run_string_add_sum W _ _ (by simp only [ByteArray.size, List.size_toArray]; omega), ByteArray.mk_append_mk]
section
variable (s : ByteArray)
theorem run_le (q : By → Bool) : (s.data.toList.takeWhile q).length ≤ s.size := by
  rw [Lib.size_eq]; exact (List.takeWhile_sublist _).length_le
end
end Go.Proofs.Ytmcfjlkjijaflaa
