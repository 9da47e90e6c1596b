/-
  awake: a place that was dropped is taken again.
-/
import Derived.Test.YtiicbmgompnehaaArStr
namespace Go.Proofs.Ytiicbmgompnehaa
open Go.RowKit

theorem ArAt.new {α : Type} {enc : α → List Value} {k : Nat} {tA tS : TypeId} (w : World) (m : Int) :
    ArAt tA tS enc k (w.alloc (.cells #[.int .i64 m, .slice none 0 0, .slice none 0 0] tA)) w.heap.size [w.heap.size] m [] [] :=
  ⟨_, _, heap_alloc_new w _, World.ownsRow_nil _ _ _ _, World.ownsRow_nil _ _ _ _, by simp [Value.ownBlock]⟩

def sa : ByteArray := ⟨#[97]⟩
def sb : ByteArray := ⟨#[98]⟩
def sc : ByteArray := ⟨#[99]⟩
def s0 : ByteArray := ⟨#[]⟩

set_option maxHeartbeats 800000 in
theorem awake_any (w : World) : Calls Try.prog 5 #[] w fun e w' => e = .returned (.bool true) ∧ Turned [] w w' := by
  have ea : sa.toList = [97] := by kernel_rfl
  have ec : sc.toList = [99] := by kernel_rfl
  go_enter Try.func5, Try.ntmps5
  go_wp2_with fail
  refine (St.new_any 3 _).mono ?_
  rintro e w0 ⟨rfl, hw0⟩
  have h0 : St.ArS w0 w.heap.size [w.heap.size] 3 [] [] := by rw [hw0]; exact ArAt.new w 3
  have t0 : Turned [w.heap.size] w w0 := by rw [hw0]; exact (Turned.refl _ w).alloc _
  have T0 := Lib.hid t0
  clear hw0 t0
  go_wp2_with fail
  refine (St.put_new h0 sa (by simp) (by decide)).mono ?_
  rintro e w1 ⟨rfl, X1, h1, t1, n1⟩
  have T1 := Lib.hid t1
  have N1 := Lib.hid n1
  have H1 := Lib.hid h1
  clear h0 t1 n1 h1
  go_wp2_with fail
  refine (St.put_new H1.out sb (by simp) (by decide)).mono ?_
  rintro e w2 ⟨rfl, X2, h2, t2, n2⟩
  have T2 := Lib.hid t2
  have N2 := Lib.hid n2
  have H2 := Lib.hid h2
  clear t2 n2 h2
  go_wp2_with fail
  refine (St.drop_yes H2.out 0 sa rfl (by simp)).mono ?_
  rintro e w3 ⟨rfl, X3, h3, t3, n3⟩
  have T3 := Lib.hid t3
  have N3 := Lib.hid n3
  have H3 := Lib.hid h3
  clear t3 n3 h3
  go_wp2_with fail
  have hz : ((0 : Nat) : Int) = 0 := rfl
  refine (St.put_old (F := []) (f := 0) H3.out sc (by simp) (by simp) (by simp) (by decide)).mono ?_
  rintro e w4 ⟨rfl, h4, t4⟩
  rw [hz]
  clear hz
  have T4 := Lib.hid t4
  have H4 := Lib.hid h4
  clear t4 h4
  go_wp2_with fail
  refine (St.get_yes H4.out 0 0 sc rfl (by simp)).mono ?_
  rintro e w5 ⟨rfl, rfl⟩
  go_wp2_with fail
  refine (St.len_any H4.out (by simp) (by simp)).mono ?_
  rintro e w6 ⟨rfl, n6, rfl⟩
  go_wp2_with fail
  refine (St.most_any (w := w4.drewN n6) H4.out).mono ?_
  rintro e w7 ⟨rfl, rfl⟩
  go_wp2
  go_ret
  have q1 := T0.out.trans T1.out (Newer.refl _ _)
  have m1 := N1.out.mono (m := w.heap.size) T0.out.size
  have q2 := q1.trans T2.out m1
  have m2 := m1.trans (N2.out.mono (m := w.heap.size) q1.size) (Nat.le_refl _)
  have q3 := q2.trans T3.out m2
  have m3 := m2.trans (N3.out.mono (m := w.heap.size) q2.size) (Nat.le_refl _)
  have q4 := q3.trans T4.out m3
  exact ⟨rfl, (q4.drewN n6).mono (fun k hk => .inr (by simp at hk; omega))⟩
end Go.Proofs.Ytiicbmgompnehaa
