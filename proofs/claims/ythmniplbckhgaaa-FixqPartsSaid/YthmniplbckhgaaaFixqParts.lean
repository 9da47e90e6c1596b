/-
  For every three numbers of 64 bits, from 0 on, the Go function forelocklaw01.FixqParts returns true and leaves its arguments as they were. No condition.
-/
import Derived.Test.YthmniplbckhgaaaFixLaws
import Derived.Test.YthmniplbckhgaaaFixPost
import Derived.Test.YthmniplbckhgaaaRefDiv
namespace Go.Proofs.Ythmniplbckhgaaa
open Go.ChangeShapes Go.WideShapes Go.ChangeAt Go.RowKit

set_option maxHeartbeats 800000 in
theorem refmuldiv_any (a b c : Int) (ha : Word a) (hb : Word b) (hc : Word c) (w : World) :
    Calls Try.prog 16 #[.int .u64 a, .int .u64 b, .int .u64 c] w fun e w' => e = .returned (.tuple #[.int .u64 (divV (a * b) c), .int .i64 (divE (a * b) c)]) ∧ Below w.heap.size w w' := by
  by_cases h0 : c = 0
  · subst h0
    rw [show divV (a * b) 0 = 0 from if_pos rfl, show divE (a * b) 0 = 1 from if_pos rfl]
    go_enter Try.func16, Try.ntmps16
    go_wp2
    go_ret2
    exact ⟨rfl, Below.refl _ _⟩
  · have hp : 0 < c := by have := hc.1; omega
    have t1 : (c == 0) = false := by simpa using h0
    rw [show divV (a * b) c = satV (a * b / c) from if_neg h0, show divE (a * b) c = satE (a * b / c) from if_neg h0]
    have N1 := Lib.hid (number_any a ha)
    have N2 := Lib.hid (number_any b hb)
    have N3 := Lib.hid (number_any c hc)
    go_enter Try.func16, Try.ntmps16
    go_wp2_with fail
    refine (N1.out _).mono ?_
    rintro e w1 ⟨v1, rfl, n1, b1⟩
    go_wp2_with fail
    refine (N2.out _).mono ?_
    rintro e w2 ⟨v2, rfl, n2, b2⟩
    have S := Lib.hid (times_any (n1.below b2) n2 (by omega) (by omega))
    go_wp2_with fail
    refine S.out.mono ?_
    rintro e w3 ⟨v3, rfl, n3, b3⟩
    go_wp2_with fail
    refine (N3.out _).mono ?_
    rintro e w4 ⟨v4, rfl, n4, b4⟩
    have D := Lib.hid (divide_any (n3.below b4) n4 (by omega) (by omega) hp)
    go_wp2_with fail
    refine D.out.mono ?_
    rintro e w5 ⟨v5, r5, rfl, n5, _, b5⟩
    have F := Lib.hid (fits_any n5 (by omega))
    go_wp2_with fail
    refine F.out.mono ?_
    rintro e w6 ⟨rfl, rfl⟩
    go_wp2
    go_ret2
    have z1 := b1.size
    have z2 := b2.size
    have z3 := b3.size
    have z4 := b4.size
    exact ⟨rfl, (((b1.trans (b2.mono z1)).trans (b3.mono (by omega))).trans (b4.mono (by omega))).trans (b5.mono (by omega))⟩

theorem sat_mod {x c : Int} (hc : Word c) (hp : 0 < c) : satV (x % c) = x % c ∧ satE (x % c) = 0 := by
  have m1 := Int.emod_lt_of_pos x hp
  have := hc.2
  exact ⟨satV_fit (by omega), satE_fit (by omega)⟩

set_option maxHeartbeats 800000 in
theorem refmulmod_any (a b c : Int) (ha : Word a) (hb : Word b) (hc : Word c) (w : World) :
    Calls Try.prog 18 #[.int .u64 a, .int .u64 b, .int .u64 c] w fun e w' => e = .returned (.tuple #[.int .u64 (modV (a * b) c), .int .i64 (modE c)]) ∧ Below w.heap.size w w' := by
  by_cases h0 : c = 0
  · subst h0
    rw [show modV (a * b) 0 = 0 from if_pos rfl, show modE 0 = 1 from if_pos rfl]
    go_enter Try.func18, Try.ntmps18
    go_wp2
    go_ret2
    exact ⟨rfl, Below.refl _ _⟩
  · have hp : 0 < c := by have := hc.1; omega
    have t1 : (c == 0) = false := by simpa using h0
    rw [show modV (a * b) c = a * b % c from if_neg h0, show modE c = 0 from if_neg h0, ← (sat_mod (x := a * b) hc hp).1, ← (sat_mod (x := a * b) hc hp).2]
    have N1 := Lib.hid (number_any a ha)
    have N2 := Lib.hid (number_any b hb)
    have N3 := Lib.hid (number_any c hc)
    rw [(sat_mod (x := a * b) hc hp).1]
    have HS := Lib.hid (sat_mod (x := a * b) hc hp)
    go_enter Try.func18, Try.ntmps18
    go_wp2_with fail
    refine (N1.out _).mono ?_
    rintro e w1 ⟨v1, rfl, n1, b1⟩
    go_wp2_with fail
    refine (N2.out _).mono ?_
    rintro e w2 ⟨v2, rfl, n2, b2⟩
    have S := Lib.hid (times_any (n1.below b2) n2 (by omega) (by omega))
    go_wp2_with fail
    refine S.out.mono ?_
    rintro e w3 ⟨v3, rfl, n3, b3⟩
    go_wp2_with fail
    refine (N3.out _).mono ?_
    rintro e w4 ⟨v4, rfl, n4, b4⟩
    have D := Lib.hid (divide_any (n3.below b4) n4 (by omega) (by omega) hp)
    go_wp2_with fail
    refine D.out.mono ?_
    rintro e w5 ⟨v5, r5, rfl, _, n5, b5⟩
    have F := Lib.hid (fits_any n5 (by omega))
    go_wp2_with fail
    refine F.out.mono ?_
    rintro e w6 ⟨rfl, rfl⟩
    go_wp2
    go_ret2
    have z1 := b1.size
    have z2 := b2.size
    have z3 := b3.size
    have z4 := b4.size
    rw [HS.out.1, HS.out.2]
    exact ⟨rfl, (((b1.trans (b2.mono z1)).trans (b3.mono (by omega))).trans (b4.mono (by omega))).trans (b5.mono (by omega))⟩

set_option maxHeartbeats 800000 in
theorem parts_walk (a b c : Int) (ha : Word a) (hb : Word b) (hc : Word c) (w : World) :
    Calls Try.prog 4 #[.int .u64 a, .int .u64 b, .int .u64 c] w fun e w' => e = .returned (.bool true) ∧ Below w.heap.size w w' := by
  have C1 := Lib.hid (muldiv_any a b c ha hb hc)
  have C2 := Lib.hid (refmuldiv_any a b c ha hb hc)
  have C3 := Lib.hid (mulmod_any a b c ha hb hc)
  have C4 := Lib.hid (refmulmod_any a b c ha hb hc)
  generalize divV (a * b) c = x at C1 C2
  generalize divE (a * b) c = e1 at C1 C2
  have hm : c = 0 ∨ (¬ c = 0 ∧ modV (a * b) c < c) := by
    by_cases h0 : c = 0
    · exact .inl h0
    · refine .inr ⟨h0, ?_⟩
      rw [show modV (a * b) c = a * b % c from if_neg h0]
      exact Int.emod_lt_of_pos _ (by have := hc.1; omega)
  generalize modV (a * b) c = y at C3 C4 hm
  generalize modE c = e2 at C3 C4
  rcases hm with rfl | ⟨h0, hy⟩
  · go_enter Try.func4, Try.ntmps4
    go_wp2_with fail
    refine (awake_any _).mono ?_
    rintro e w1 ⟨rfl, b1⟩
    go_wp2_with fail
    refine (C1.out _).mono ?_
    rintro e w2 ⟨rfl, b2⟩
    go_wp2_with fail
    refine (C2.out _).mono ?_
    rintro e w3 ⟨rfl, b3⟩
    go_wp2_with fail
    refine (C3.out _).mono ?_
    rintro e w4 ⟨rfl, b4⟩
    go_wp2_with fail
    refine (C4.out _).mono ?_
    rintro e w5 ⟨rfl, b5⟩
    go_wp2
    go_ret
    have z1 := b1.size
    have z2 := b2.size
    have z3 := b3.size
    have z4 := b4.size
    exact ⟨rfl, (((b1.trans (b2.mono z1)).trans (b3.mono (by omega))).trans (b4.mono (by omega))).trans (b5.mono (by omega))⟩
  · have t1 : (c == 0) = false := by simpa using h0
    go_enter Try.func4, Try.ntmps4
    go_wp2_with fail
    refine (awake_any _).mono ?_
    rintro e w1 ⟨rfl, b1⟩
    go_wp2_with fail
    refine (C1.out _).mono ?_
    rintro e w2 ⟨rfl, b2⟩
    go_wp2_with fail
    refine (C2.out _).mono ?_
    rintro e w3 ⟨rfl, b3⟩
    go_wp2_with fail
    refine (C3.out _).mono ?_
    rintro e w4 ⟨rfl, b4⟩
    go_wp2_with fail
    refine (C4.out _).mono ?_
    rintro e w5 ⟨rfl, b5⟩
    go_wp2
    go_ret
    have z1 := b1.size
    have z2 := b2.size
    have z3 := b3.size
    have z4 := b4.size
    exact ⟨rfl, (((b1.trans (b2.mono z1)).trans (b3.mono (by omega))).trans (b4.mono (by omega))).trans (b5.mono (by omega))⟩

set_option maxRecDepth 100000 in
theorem parts_lifted (os : Os) (started : os.Started) (H : Type) (enc : TypeId × Value → H) :
    ReturnsInHanded {} Try.checked os 4 .any (Rows.fixqPartsSpec.pre6 enc Try.prog Try.f4 Rows.fixqPartsRow.domain false) (Rows.fixqPartsSpec.post enc Try.prog Try.f4 false true false false) := by
  refine returnsInHanded_of_change (C := Try.checked) own started (by kernel_rfl) Try.func4
    (ChangeSpec.witness6 (enc := enc) (C := Try.checked) false ⟨#[], #[.int .u64 0, .int .u64 0, .int .u64 0], []⟩ 8 (by kernel_rfl) (by kernel_rfl) (by kernel_rfl) (by kernel_rfl)) ?_
  intro W base args ds gs before hval0 hW hcnd _
  have hval : ∀ (j : Nat) t v, Try.f4.params[j]? = some t → args[j]? = some v → Value.okWide Try.prog W .any base t v := hval0
  have hW' := hW
  obtain ⟨p, q, hA0, hV, rfl, hfz, hnd⟩ := hW
  have hA : DataW.TrodAll enc Try.prog W 0 (fun _ => true) true Try.f4.params.toList args.toList ds p := hA0
  rw [Try.params4] at hA hval
  obtain ⟨v0, v1, v2, d0, d1, d2, p0, p1, p2, rfl, rfl, rfl, h0, h1, h2⟩ := trodAll_three hA
  obtain ⟨rfl, rfl⟩ := trodVars_none hV
  obtain ⟨a0, rfl, rfl, rfl, w0⟩ := open_int Try.underlying22 (hval 0 22 v0 rfl rfl) h0
  obtain ⟨a1, rfl, rfl, rfl, w1⟩ := open_int Try.underlying22 (hval 1 22 v1 rfl rfl) h1
  obtain ⟨a2, rfl, rfl, rfl, w2⟩ := open_int Try.underlying22 (hval 2 22 v2 rfl rfl) h2
  clear hA0 hval0
  simp only [List.append_nil] at hW'
  refine (parts_walk a0 a1 a2 (word_of_wf w0) (word_of_wf w1) (word_of_wf w2) W).mono fun e W' ⟨he, hb⟩ => ?_
  subst he
  exact ⟨_, rfl, post_law (pa := []) (pv := []) hW' hb (fun _ _ _ => trodAll_mk1 (shut_bool Try.underlying4 _)) (trodAll_mk3 (shut_int Try.underlying22 w0) (shut_int Try.underlying22 w1) (shut_int Try.underlying22 w2)) rfl⟩

theorem fixqParts_holds : Rows.FixqPartsSaid :=
  OpenClaim.holds_of_wide 4 Try.f4 rfl rfl rfl rfl rfl rfl rfl ⟨rfl, rfl, rfl, rfl, rfl⟩ rfl rfl rfl rfl rfl (by kernel_rfl) Try.func4 (by kernel_rfl)
    (of_decide_eq_true (by kernel_rfl)) (by unfold Func.isWrapper; first | (rw [if_pos (by decide +kernel)]; kernel_rfl) | (rw [if_neg (by decide +kernel)]; exact ⟨rfl, rfl⟩))
    (fun os started H enc _ => parts_lifted os started H enc)
#print axioms fixqParts_holds
end Go.Proofs.Ythmniplbckhgaaa
